import unittest

from asking import GREATEST, NO_WEIGHER, OUTSIDE, ask, ask_last, assert_refused, laid_out, state_after

WRONG = (
    (0, 100, 0),
    (9, 100, 0),
    (GREATEST, 100, 0),
    (3, 0, 0),
    (3, 1000, 0),
    (3, GREATEST, 0),
    (3, 100, 10),
    (3, 100, GREATEST),
    (0, 0, 10),
    (9, 1000, GREATEST),
)


class Create(unittest.TestCase):

    def test_answers_0(self):
        self.assertEqual(ask(("create", 3, 100, 0)), [[0]])

    def test_a_new_weigher_is_empty(self):
        self.assertEqual(
            state_after(("create", 3, 100, 4)),
            [[3, 0, 0, 0, 0, 0, 0], [0], [0], [0], [0, 0, 0, 0, 0], [100], [4]],
        )

    def test_each_hopper_count_within_the_limits(self):
        for hopper_count in range(1, 9):
            told = ask(("create", hopper_count, 100, 0), ("get_hoppers",))
            self.assertEqual(told, [[0], [hopper_count] + [0, 0] * hopper_count])

    def test_the_ends_of_target(self):
        for target in (1, 2, 998, 999):
            told = ask(("create", 3, target, 0), ("set_target", 5))
            self.assertEqual(told, [[0], [target]])

    def test_each_age_limit_within_the_limits(self):
        for max_age in range(10):
            told = ask(("create", 3, 100, max_age), ("set_max_age", 5))
            self.assertEqual(told, [[0], [max_age]])

    def test_all_arguments_at_their_ends(self):
        self.assertEqual(ask(("create", 1, 1, 0)), [[0]])
        self.assertEqual(ask(("create", 8, 999, 9)), [[0]])

    def test_arguments_outside_their_limits(self):
        for numbers in WRONG:
            with self.subTest(numbers=numbers):
                self.assertEqual(ask(("create", *numbers)), [OUTSIDE])

    def test_a_failed_create_makes_no_weigher(self):
        for numbers in WRONG:
            with self.subTest(numbers=numbers):
                self.assertEqual(ask_last(("create", *numbers), ("get_hoppers",)), NO_WEIGHER)

    def test_a_failed_create_keeps_the_weigher(self):
        before = (("create", 2, 70, 3), ("add_portions", 40, 50, 60))
        for numbers in WRONG:
            with self.subTest(numbers=numbers):
                assert_refused(self, before, ("create", *numbers), OUTSIDE)

    def test_it_replaces_a_weigher(self):
        before = (("create", 2, 70, 3), ("add_portions", 40, 50, 60))
        again = ("create", 4, 200, 7)
        self.assertEqual(ask_last(*before, again), [0])
        self.assertEqual(state_after(*before, again), state_after(again))

    def test_it_replaces_a_weigher_that_has_filled_bags(self):
        before = (*laid_out(70, 3, ((40, 2), (0, 0), (50, 1)), queue=(60, 70)), ("fill_best_bag",))
        again = ("create", 4, 200, 7)
        self.assertEqual(state_after(*before, again), state_after(again))
        for numbers in WRONG:
            with self.subTest(numbers=numbers):
                assert_refused(self, before, ("create", *numbers), OUTSIDE)

    def test_the_same_create_again_empties_too(self):
        told = ask(
            ("create", 1, 70, 0), ("add_portions", 40, 50),
            ("create", 1, 70, 0), ("get_hoppers",), ("get_queue",), ("add_portion", 30),
        )
        self.assertEqual(told[2:], [[0], [1, 0, 0], [0], [0]])

    def test_it_works_behind_a_failed_create(self):
        told = ask(("create", 0, 100, 0), ("create", 1, 100, 0), ("get_hoppers",))
        self.assertEqual(told, [OUTSIDE, [0], [1, 0, 0]])
