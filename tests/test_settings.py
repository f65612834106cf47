import unittest

from asking import GREATEST, OUTSIDE, ask, assert_refused, state_after

BEFORE = (("create", 2, 100, 4), ("add_portions", 60, 40, 30))


class SetTarget(unittest.TestCase):

    def test_it_answers_the_previous_target(self):
        told = ask(*BEFORE, ("set_target", 250), ("set_target", 7), ("set_target", 7), ("set_target", 100))
        self.assertEqual(told[2:], [[100], [250], [7], [7]])

    def test_the_target_counts_at_once(self):
        told = ask(
            *BEFORE, ("filling_set_count",), ("set_target", 101), ("filling_set_count",),
            ("set_target", 40), ("filling_set_count",),
        )
        self.assertEqual(told[2:], [[1], [100], [0], [101], [3]])

    def test_the_ends_of_target(self):
        told = ask(*BEFORE, ("set_target", 1), ("set_target", 999), ("set_target", 5))
        self.assertEqual(told[2:], [[100], [1], [999]])

    def test_targets_outside_their_limits(self):
        for target in (0, 1000, GREATEST):
            with self.subTest(target=target):
                assert_refused(self, BEFORE, ("set_target", target), OUTSIDE)

    def test_nothing_else_changes(self):
        state = state_after(*BEFORE)
        self.assertEqual(state_after(*BEFORE, ("set_target", 99), ("set_target", 100)), state)
        changed = state_after(*BEFORE, ("set_target", 300))
        self.assertEqual(changed, state[:3] + [[0], state[4], [300], state[6]])


class SetMaxAge(unittest.TestCase):

    def test_it_answers_the_previous_limit(self):
        told = ask(*BEFORE, ("set_max_age", 1), ("set_max_age", 7), ("set_max_age", 7), ("set_max_age", 4))
        self.assertEqual(told[2:], [[4], [1], [7], [7]])

    def test_the_ends_of_max_age(self):
        told = ask(*BEFORE, ("set_max_age", 0), ("set_max_age", 9), ("set_max_age", 0))
        self.assertEqual(told[2:], [[4], [0], [9]])

    def test_limits_outside_their_limits(self):
        for max_age in (10, GREATEST):
            with self.subTest(max_age=max_age):
                assert_refused(self, BEFORE, ("set_max_age", max_age), OUTSIDE)

    def test_nothing_else_changes(self):
        state = state_after(*BEFORE)
        changed = state_after(*BEFORE, ("set_max_age", 1))
        self.assertEqual(changed, state[:6] + [[1]])
