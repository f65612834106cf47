import unittest

from asking import EMPTY, GREATEST, NONE_FILLS, OUTSIDE, ask, ask_last, assert_refused, laid_out, state_after

EXAMPLE = (("create", 3, 100, 0), ("add_portions", 60, 45, 50))


def behind(before, *calls):
    """What these calls, and get_hoppers and get_queue behind them, are answered."""
    return ask(*before, *calls, ("get_hoppers",), ("get_queue",))[len(before):]


class FillBag(unittest.TestCase):

    def test_the_excess_of_the_set_before(self):
        for mask, excess in ((3, 5), (5, 10), (7, 55)):
            self.assertEqual(ask_last(*EXAMPLE, ("fill_bag", mask)), [excess])
            # The portion that comes from the queue is not of this bag.
            self.assertEqual(ask_last(*EXAMPLE, ("add_portion", 300), ("fill_bag", mask)), [excess])
        self.assertEqual(ask_last(*EXAMPLE, ("set_target", 105), ("fill_bag", 3)), [0])

    def test_the_balance(self):
        told = ask(*EXAMPLE, ("add_portions", 70, 20), ("fill_bag", 5), ("totals",), ("fill_bag", 3), ("totals",))
        self.assertEqual(told[2:], [[2], [10], [1, 245, 110, 135, 0], [15], [2, 245, 225, 20, 0]])

    def test_the_portions_are_gone(self):
        self.assertEqual(behind(EXAMPLE, ("fill_bag", 3)), [[5], [3, 0, 0, 0, 0, 50, 1], [0]])
        self.assertEqual(behind(EXAMPLE, ("fill_bag", 7)), [[55], [3, 0, 0, 0, 0, 0, 0], [0]])

    def test_refilled_in_the_order_of_the_hoppers_numbers(self):
        before = laid_out(60, 0, ((10, 0), (20, 0), (30, 0), (40, 0)), queue=(7, 8, 9, 6, 5))
        self.assertEqual(behind(before, ("fill_bag", 13)), [[20], [4, 7, 0, 20, 1, 8, 0, 9, 0], [2, 6, 5]])
        self.assertEqual(behind(before, ("fill_bag", 10)), [[0], [4, 10, 1, 7, 0, 30, 1, 8, 0], [3, 9, 6, 5]])
        self.assertEqual(behind(before, ("fill_bag", 15)), [[40], [4, 7, 0, 8, 0, 9, 0, 6, 0], [1, 5]])

    def test_a_queue_that_is_shorter_than_the_set(self):
        before = laid_out(60, 0, ((10, 0), (20, 0), (30, 0), (40, 0)), queue=(7, 8))
        self.assertEqual(behind(before, ("fill_bag", 14)), [[30], [4, 10, 1, 7, 0, 8, 0, 0, 0], [0]])
        self.assertEqual(behind(before, ("fill_bag", 12)), [[10], [4, 10, 1, 20, 1, 7, 0, 8, 0], [0]])
        self.assertEqual(behind(before, ("fill_bag", 15)), [[40], [4, 7, 0, 8, 0, 0, 0, 0, 0], [0]])

    def test_no_queue(self):
        before = laid_out(60, 0, ((10, 0), (20, 0), (30, 0), (40, 2)))
        self.assertEqual(behind(before, ("fill_bag", 14)), [[30], [4, 10, 1, 0, 0, 0, 0, 0, 0], [0]])

    def test_ages_grow_in_the_hoppers_left_alone(self):
        before = laid_out(10, 0, ((10, 0), (20, 3), (30, 11), (0, 0), (50, 1)))
        told = behind(before, ("fill_bag", 1), ("get_hoppers",), ("fill_bag", 16), ("get_hoppers",), ("fill_bag", 2))
        self.assertEqual(told[1], [5, 0, 0, 20, 4, 30, 12, 0, 0, 50, 2])
        self.assertEqual(told[3], [5, 0, 0, 20, 5, 30, 13, 0, 0, 0, 0])
        self.assertEqual(told[5], [5, 0, 0, 0, 0, 30, 14, 0, 0, 0, 0])

    def test_ages_start_anew_in_the_hoppers_of_the_set(self):
        before = laid_out(10, 0, ((10, 4), (20, 3), (30, 0)), queue=(7,))
        self.assertEqual(behind(before, ("fill_bag", 3)), [[20], [3, 7, 0, 0, 0, 30, 1], [0]])
        self.assertEqual(
            behind(before, ("fill_bag", 3), ("add_portion", 9), ("fill_bag", 4)),
            [[20], [0], [20], [3, 7, 1, 9, 1, 0, 0], [0]],
        )

    def test_empty_hoppers_of_the_set_are_refilled_too(self):
        before = laid_out(60, 0, ((0, 0), (70, 2), (0, 0), (40, 1), (0, 0)), queue=(7, 8, 9))
        self.assertEqual(behind(before, ("fill_bag", 2)), [[10], [5, 0, 0, 7, 0, 0, 0, 40, 2, 0, 0], [2, 8, 9]])
        self.assertEqual(behind(before, ("fill_bag", 3)), [[10], [5, 7, 0, 8, 0, 0, 0, 40, 2, 0, 0], [1, 9]])
        self.assertEqual(behind(before, ("fill_bag", 22)), [[10], [5, 0, 0, 7, 0, 8, 0, 40, 2, 9, 0], [0]])
        self.assertEqual(behind(before, ("fill_bag", 23)), [[10], [5, 7, 0, 8, 0, 9, 0, 40, 2, 0, 0], [0]])

    def test_an_empty_hopper_of_the_set_stays_empty_without_a_queue(self):
        before = laid_out(60, 0, ((0, 0), (70, 2), (0, 0)))
        self.assertEqual(behind(before, ("fill_bag", 7)), [[10], [3, 0, 0, 0, 0, 0, 0], [0]])

    def test_an_empty_hopper_beside_the_set_stays_empty_and_of_age_0(self):
        before = laid_out(60, 0, ((0, 0), (70, 2), (80, 1)), queue=(61, 62))
        told = behind(before, ("fill_bag", 2), ("fill_bag", 2))
        self.assertEqual(told, [[10], [1], [3, 0, 0, 62, 0, 80, 3], [0]])

    def test_hoppers_that_do_not_exist(self):
        for count in range(1, 9):
            # All hoppers weigh enough for a bag; those of the second weigher don't.
            for before in (
                (("create", count, 1, 0), ("add_portions", *[300] * count)),
                (("create", count, 999, 0), ("add_portion", 300)),
            ):
                for mask in (2 ** count, 2 ** count + 1, 2 ** (count + 1) - 1, 2 ** 31, GREATEST):
                    with self.subTest(before=before, mask=mask):
                        assert_refused(self, before, ("fill_bag", mask), OUTSIDE)

    def test_sets_that_weigh_too_little(self):
        for mask in (0, 1, 2, 4, 6):
            assert_refused(self, EXAMPLE, ("fill_bag", mask), NONE_FILLS)
        assert_refused(self, (*EXAMPLE, ("set_target", 106), ("add_portion", 70)), ("fill_bag", 3), NONE_FILLS)

    def test_sets_without_a_due_hopper(self):
        before = laid_out(100, 2, ((60, 2), (70, 0), (50, 3), (200, 1)), queue=(80,))
        for mask in range(16):
            if mask in (5, 7, 13, 15):
                self.assertGreaterEqual(ask_last(*before, ("fill_bag", mask))[0], 0)
            else:
                assert_refused(self, before, ("fill_bag", mask), NONE_FILLS)

    def test_all_sets_that_can_fill(self):
        before = laid_out(90, 2, ((60, 2), (45, 0), (0, 0), (50, 1), (15, 0)), queue=(80, 81))
        for mask in range(32):
            fills, weight, told = ask(*before, ("can_fill", mask), ("weight_of", mask), ("fill_bag", mask))[-3:]
            self.assertEqual(told, [weight[0] - 90] if fills == [1] else NONE_FILLS)

    def test_more_bags_than_one(self):
        told = ask(
            ("create", 2, 50, 0), ("add_portions", 50, 51, 52, 53, 54), ("fill_bag", 1), ("fill_bag", 1),
            ("fill_bag", 2), ("fill_bag", 3), ("fill_bag", 3), ("totals",),
        )
        self.assertEqual(told[2:], [[0], [2], [1], [57], NONE_FILLS, [4, 260, 260, 0, 0]])


class FillBestBag(unittest.TestCase):

    STATES = (
        EXAMPLE,
        (*EXAMPLE, ("add_portions", 70, 20, 10)),
        laid_out(60, 0, ((0, 0), (70, 2), (0, 0), (40, 1), (65, 0)), queue=(7, 8, 9)),
        laid_out(100, 1, ((60, 0), (45, 1), (50, 2)), queue=(300, 1)),
        laid_out(50, 1, ((300, 0), (45, 1), (52, 1))),
        laid_out(100, 3, ((60, 0), (40, 0), (60, 2), (40, 2), (100, 2))),
    )

    def test_the_example(self):
        told = behind((*EXAMPLE, ("add_portion", 70)), ("fill_best_bag",), ("totals",), ("fill_bag", 1))
        self.assertEqual(told[:3], [[3, 5, 2], [1, 225, 105, 120, 0], NONE_FILLS])
        self.assertEqual(told[3:], [[3, 70, 0, 0, 0, 50, 1], [0]])

    def test_it_answers_what_best_set_would_have(self):
        for before in self.STATES:
            told = ask_last(*before, ("fill_best_bag",))
            self.assertGreater(told[0], 0)
            self.assertEqual(told, ask_last(*before, ("best_set",)))

    def test_it_does_what_fill_bag_does(self):
        for before in self.STATES:
            mask = ask_last(*before, ("best_set",))[0]
            self.assertEqual(state_after(*before, ("fill_best_bag",)), state_after(*before, ("fill_bag", mask)))

    def test_again_and_again(self):
        told = ask(
            ("create", 2, 50, 0), ("add_portions", 70, 60, 52, 40, 30),
            *[("fill_best_bag",)] * 5, ("totals",),
        )
        self.assertEqual(told[2:], [[2, 10, 1], [2, 2, 1], [1, 20, 1], [3, 20, 2], NONE_FILLS, [4, 252, 252, 0, 0]])

    def test_no_set_fills(self):
        for before in (
            (("create", 3, 1, 0),),
            (("create", 3, 156, 0), ("add_portions", 60, 45, 50, 300)),
            laid_out(156, 1, ((60, 2), (45, 1), (50, 0))),
        ):
            assert_refused(self, before, ("fill_best_bag",), NONE_FILLS)

    def test_it_empties_what_was_filled(self):
        told = ask(*EXAMPLE, ("fill_best_bag",), ("discard", 0), ("discard", 1), ("discard", 2))
        self.assertEqual(told[2:], [[3, 5, 2], EMPTY, EMPTY, [50]])
