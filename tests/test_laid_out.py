"""Tests of the states that other tests start from."""

import unittest

from asking import ask, laid_out


def told_of(*numbers, **words):
    """Hoppers and queue behind the calls, and whether a call of these was refused."""
    calls = laid_out(*numbers, **words)
    told = ask(*calls, ("get_hoppers",), ("get_queue",))
    return told[-2], told[-1], any(answer[0] < 0 for answer in told)


class LaidOut(unittest.TestCase):

    def test_ages_in_any_order(self):
        for portions in (
            ((60, 2), (45, 0), (50, 1)),
            ((60, 0), (45, 3), (50, 3)),
            ((60, 0),),
            ((60, 0), (45, 12)),
            ((10, 7), (20, 6), (30, 5), (40, 4), (50, 3), (60, 2), (70, 1), (80, 0)),
            ((0, 0), (45, 5), (50, 5)),
            ((45, 5), (0, 0), (50, 4), (0, 0)),
        ):
            hoppers = [len(portions)] + [number for portion in portions for number in portion]
            with self.subTest(portions=portions):
                self.assertEqual(told_of(100, 2, portions), (hoppers, [0], False))
                queue = (7, 9, 8)
                self.assertEqual(told_of(100, 2, portions, queue=queue), (hoppers, [3, 7, 9, 8], False))

    def test_target_and_age_limit(self):
        told = ask(*laid_out(120, 3, ((60, 1), (45, 0))), ("set_target", 1), ("set_max_age", 0))
        self.assertEqual(told[-2:], [[120], [3]])
