import unittest

from asking import (
    EMPTY, GREATEST, NO_HOPPER, ask, ask_last, assert_refused, assert_unchanged, laid_out,
)

EXAMPLE = (("create", 3, 100, 0), ("add_portions", 60, 45, 50))


class Totals(unittest.TestCase):

    def test_a_new_weigher(self):
        self.assertEqual(ask_last(("create", 3, 100, 0), ("totals",)), [0, 0, 0, 0, 0])

    def test_the_example(self):
        told = ask_last(*EXAMPLE, ("add_portion", 70), ("fill_best_bag",), ("totals",))
        self.assertEqual(told, [1, 225, 105, 120, 0])

    def test_arrivals_are_received(self):
        told = ask(
            ("create", 2, 100, 0), ("add_portion", 60), ("totals",), ("add_portions", 45, 50, 70), ("totals",),
            ("add_portion", 300), ("totals",),
        )
        self.assertEqual(told[2::2], [[0, 60, 0, 60, 0], [0, 225, 0, 105, 120], [0, 525, 0, 105, 420]])

    def test_refused_arrivals_are_not_received(self):
        before = (("create", 1, 100, 0), *[("add_portions", *[10] * 25)])
        for refused in (
            ("add_portion", 0), ("add_portion", 301), ("add_portion", 10),
            ("add_portions",), ("add_portions", 10, 0), ("add_portions", 10, 301), ("add_portions", 10),
        ):
            self.assertEqual(ask_last(*before, refused, ("totals",)), [0, 250, 0, 10, 240])

    def test_bags_are_packed(self):
        told = ask(*EXAMPLE, ("add_portions", 70, 20, 30), ("fill_bag", 6), ("totals",), ("fill_bag", 5), ("totals",),
                   ("run", 12), ("totals",))
        self.assertEqual(told[3], [-33])
        self.assertEqual(told[4], [0, 275, 0, 155, 120])
        self.assertEqual(told[6], [1, 275, 110, 135, 30])
        # 45, 20 and 70 lie in the hoppers; 70 and 45 are the least weight, 30 and 20 are left.
        self.assertEqual(told[7:], [[1, 15], [2, 275, 225, 50, 0]])

    def test_discarded_portions_are_not_received(self):
        told = ask(*EXAMPLE, ("add_portion", 70), ("discard", 1), ("totals",), ("fill_bag", 5), ("totals",))
        self.assertEqual(told[3:], [[45], [0, 180, 0, 110, 70], [10], [1, 180, 110, 70, 0]])

    def test_they_go_beyond_what_lies_there(self):
        calls = [("create", 8, 1, 0)]
        for more in range(14):
            calls += [("add_portions", *[300] * 24), ("run", 12), ("run", 12)]
        self.assertEqual(ask_last(*calls, ("totals",)), [336, 100800, 100800, 0, 0])

    def test_it_changes_nothing(self):
        assert_unchanged(self, laid_out(100, 2, ((60, 2), (0, 0), (50, 1)), queue=(70, 80)), ("totals",))

    def test_create_sets_them_to_0(self):
        told = ask_last(*EXAMPLE, ("fill_bag", 7), ("create", 3, 100, 0), ("totals",))
        self.assertEqual(told, [0, 0, 0, 0, 0])


class Discard(unittest.TestCase):

    def test_the_weight_of_the_portion(self):
        told = ask(*EXAMPLE, ("discard", 2), ("discard", 0), ("discard", 1), ("get_hoppers",), ("totals",))
        self.assertEqual(told[2:], [[50], [60], [45], [3, 0, 0, 0, 0, 0, 0], [0, 0, 0, 0, 0]])

    def test_the_hopper_is_not_refilled(self):
        before = laid_out(100, 2, ((60, 2), (45, 0), (50, 1)), queue=(70, 80))
        told = ask(*before, ("discard", 0), ("get_hoppers",), ("get_queue",), ("due_hoppers",))
        self.assertEqual(told[-4:], [[60], [3, 0, 0, 45, 0, 50, 1], [2, 70, 80], [0]])

    def test_the_age_of_an_empty_hopper_is_0(self):
        before = laid_out(40, 0, ((60, 5), (45, 0)))
        told = ask(*before, ("discard", 0), ("fill_bag", 2), ("get_hoppers",), ("add_portion", 9), ("get_hoppers",))
        self.assertEqual(told[-5:], [[60], [5], [2, 0, 0, 0, 0], [0], [2, 9, 0, 0, 0]])

    def test_other_hoppers_do_not_age(self):
        before = laid_out(40, 0, ((60, 5), (45, 0), (50, 3)))
        told = ask(*before, ("discard", 0), ("discard", 2), ("get_hoppers",))
        self.assertEqual(told[-3:], [[60], [50], [3, 0, 0, 45, 0, 0, 0]])

    def test_an_emptied_hopper_takes_the_next_arrival(self):
        told = ask(*EXAMPLE, ("add_portion", 70), ("discard", 1), ("add_portion", 80), ("get_hoppers",), ("get_queue",))
        self.assertEqual(told[3:], [[45], [1], [3, 60, 0, 80, 0, 50, 0], [1, 70]])

    def test_only_received_falls(self):
        before = (*EXAMPLE, ("add_portions", 70, 80, 90), ("fill_bag", 3))
        told = ask(*before, ("totals",), ("discard", 1), ("totals",))
        self.assertEqual(told[-3:], [[1, 395, 105, 200, 90], [80], [1, 315, 105, 120, 90]])

    def test_hoppers_that_do_not_exist(self):
        for count in range(1, 9):
            full = (("create", count, 100, 0), ("add_portions", *[10] * count))
            self.assertEqual(ask_last(*full, ("discard", count - 1)), [10])
            # A new weigher has empty hoppers only, and still a missing one is told as missing.
            for before in (full, (("create", count, 100, 0),)):
                for hopper in (count, count + 1, 8, 31, 32, GREATEST):
                    with self.subTest(before=before, hopper=hopper):
                        assert_refused(self, before, ("discard", hopper), NO_HOPPER)

    def test_empty_hoppers(self):
        before = laid_out(100, 2, ((0, 0), (45, 0), (0, 0)), queue=(70, 80))
        for hopper in (0, 2):
            assert_refused(self, before, ("discard", hopper), EMPTY)
        assert_refused(self, (*before, ("discard", 1)), ("discard", 1), EMPTY)
        for hopper in range(8):
            assert_refused(self, (("create", 8, 100, 0),), ("discard", hopper), EMPTY)
