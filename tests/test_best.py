import unittest

from asking import GREATEST, NONE_FILLS, OUTSIDE, ask, ask_last, assert_refused, assert_unchanged, laid_out

# The hoppers of the document's example.
EXAMPLE = (("create", 3, 100, 0), ("add_portions", 60, 45, 50))


def fresh(target, *weights):
    """A weigher with just these portions, none of them due."""
    return (("create", len(weights), target, 3), ("add_portions", *weights))


class BestSet(unittest.TestCase):

    def assert_best(self, before, told):
        self.assertEqual(ask_last(*before, ("best_set",)), told)
        assert_unchanged(self, before, ("best_set",))

    def test_the_example(self):
        self.assert_best(EXAMPLE, [3, 5, 2])

    def test_the_least_weight(self):
        self.assert_best(fresh(100, 60, 45, 50, 70), [3, 5, 2])
        self.assert_best(fresh(100, 60, 45, 50, 52), [12, 2, 2])
        self.assert_best(fresh(100, 99, 60, 45, 50, 1), [17, 0, 2])
        self.assert_best(fresh(100, 299, 300), [1, 199, 1])
        self.assert_best(fresh(100, 300, 299), [2, 199, 1])

    def test_less_weight_goes_ahead_of_fewer_hoppers(self):
        self.assert_best(fresh(100, 102, 30, 40, 31), [14, 1, 3])
        self.assert_best(fresh(100, 102, 30, 40, 32), [1, 2, 1])

    def test_the_same_weight_with_fewer_hoppers(self):
        self.assert_best(fresh(100, 30, 70, 100), [4, 0, 1])
        self.assert_best(fresh(100, 20, 30, 52, 99, 3), [24, 2, 2])
        self.assert_best(fresh(300, 75, 75, 75, 75, 150, 150, 300), [64, 0, 1])

    def test_the_same_weight_and_number_with_the_smaller_mask(self):
        self.assert_best(fresh(100, 60, 40, 60, 40), [3, 0, 2])
        self.assert_best(fresh(100, 40, 50, 50, 60), [6, 0, 2])
        self.assert_best(fresh(100, 60, 50, 50, 40), [6, 0, 2])
        self.assert_best(fresh(50, 40, 50, 50, 50), [2, 0, 1])
        self.assert_best(fresh(150, 50, 50, 50, 50, 50, 50, 50, 50), [7, 0, 3])
        self.assert_best(fresh(100, 20, 80, 10, 90), [3, 0, 2])

    def test_the_target_exactly_reached_by_all(self):
        self.assert_best(fresh(155, 60, 45, 50), [7, 0, 3])
        self.assert_best(fresh(999, 300, 300, 300, 99), [15, 0, 4])

    def test_no_set_fills(self):
        for before in (fresh(156, 60, 45, 50), (("create", 8, 1, 9),), fresh(999, 300, 300, 300)):
            assert_refused(self, before, ("best_set",), NONE_FILLS)

    def test_the_queue_does_not_count(self):
        before = (("create", 2, 100, 0), ("add_portions", 60, 30, 40, 300))
        assert_refused(self, before, ("best_set",), NONE_FILLS)

    def test_empty_hoppers_are_left_out(self):
        self.assert_best((("create", 8, 50, 0), ("add_portions", 60, 55)), [2, 5, 1])
        self.assert_best(laid_out(100, 0, ((0, 0), (60, 1), (0, 0), (45, 3))), [10, 5, 2])

    def test_1_hopper(self):
        self.assert_best(fresh(1, 1), [1, 0, 1])
        self.assert_best(fresh(1, 300), [1, 299, 1])
        assert_refused(self, fresh(2, 1), ("best_set",), NONE_FILLS)

    def test_8_hoppers(self):
        self.assert_best(fresh(999, *[300] * 8), [15, 201, 4])
        self.assert_best(fresh(999, 200, 200, 200, 200, 200, 200, 200, 199), [143, 0, 5])
        self.assert_best(fresh(8, *[1] * 8), [255, 0, 8])

    def test_it_contains_the_due_hoppers(self):
        # Without a limit, 60 and 45 would be best.
        portions = ((60, 0), (45, 1), (50, 2))
        self.assert_best(laid_out(100, 0, portions), [3, 5, 2])
        self.assert_best(laid_out(100, 3, portions), [3, 5, 2])
        self.assert_best(laid_out(100, 2, portions), [5, 10, 2])
        self.assert_best(laid_out(100, 1, portions), [7, 55, 3])

    def test_due_hoppers_alone_pass_the_target(self):
        self.assert_best(laid_out(50, 1, ((60, 0), (45, 1), (52, 1), (50, 0))), [6, 47, 2])
        self.assert_best(laid_out(50, 2, ((50, 0), (300, 2), (51, 1))), [2, 250, 1])

    def test_due_hoppers_alone_reach_the_target(self):
        self.assert_best(laid_out(97, 1, ((60, 0), (45, 1), (52, 1))), [6, 0, 2])
        self.assert_best(laid_out(98, 1, ((60, 0), (45, 1), (52, 1))), [7, 59, 3])

    def test_ties_between_sets_that_contain_due_hoppers(self):
        self.assert_best(laid_out(100, 1, ((50, 0), (30, 0), (20, 0), (50, 1))), [9, 0, 2])
        self.assert_best(laid_out(100, 1, ((30, 0), (20, 0), (50, 1), (50, 0), (50, 0))), [12, 0, 2])

    def test_no_set_fills_though_hoppers_are_due(self):
        assert_refused(self, laid_out(156, 1, ((60, 2), (45, 1), (50, 0))), ("best_set",), NONE_FILLS)

    def test_target_and_age_limit_count_as_they_are_set(self):
        before = laid_out(100, 0, ((60, 0), (45, 1), (50, 2)))
        told = ask(*before, ("set_target", 106), ("best_set",), ("set_max_age", 1), ("best_set",),
                   ("set_max_age", 0), ("set_target", 1), ("best_set",))
        self.assertEqual(told[len(before):], [[100], [5, 4, 2], [0], [7, 49, 3], [1], [106], [2, 44, 1]])


class GreedySet(unittest.TestCase):

    def assert_greedy(self, before, told):
        self.assertEqual(ask_last(*before, ("greedy_set",)), told)
        assert_unchanged(self, before, ("greedy_set",))

    def test_the_example(self):
        self.assert_greedy(EXAMPLE, [5, 10, 2])

    def test_by_decreasing_weight(self):
        self.assert_greedy(fresh(100, 10, 30, 20, 90), [10, 20, 2])
        self.assert_greedy(fresh(250, 10, 80, 90, 100, 70), [14, 20, 3])

    def test_a_heavy_one_is_not_passed_over(self):
        # 90 and 10 would hit the target.
        self.assert_greedy(fresh(100, 90, 80, 10), [3, 70, 2])
        self.assert_greedy(fresh(10, 10, 20, 300), [4, 290, 1])

    def test_equal_weights_the_smaller_number_first(self):
        self.assert_greedy(fresh(100, 50, 50, 50), [3, 0, 2])
        self.assert_greedy(fresh(50, 40, 50, 50), [2, 0, 1])
        self.assert_greedy(fresh(90, 50, 40, 40, 40), [3, 0, 2])
        self.assert_greedy(fresh(130, 40, 50, 40, 40), [7, 0, 3])

    def test_it_stops_as_soon_as_the_target_is_reached(self):
        self.assert_greedy(fresh(100, 60, 40, 30), [3, 0, 2])
        self.assert_greedy(fresh(101, 60, 40, 30), [7, 29, 3])
        self.assert_greedy(fresh(99, 60, 40, 30), [3, 1, 2])
        self.assert_greedy(fresh(60, 60, 40, 30), [1, 0, 1])
        self.assert_greedy(fresh(61, 60, 40, 30), [3, 39, 2])

    def test_it_starts_from_the_due_hoppers(self):
        portions = ((10, 1), (60, 0), (50, 0), (5, 1))
        self.assert_greedy(laid_out(100, 1, portions), [15, 25, 4])
        self.assert_greedy(laid_out(75, 1, portions), [11, 0, 3])
        self.assert_greedy(laid_out(76, 1, portions), [15, 49, 4])
        self.assert_greedy(laid_out(75, 2, portions), [6, 35, 2])

    def test_due_hoppers_alone_pass_the_target(self):
        self.assert_greedy(laid_out(50, 1, ((300, 0), (45, 1), (52, 1))), [6, 47, 2])

    def test_due_hoppers_alone_reach_the_target(self):
        self.assert_greedy(laid_out(97, 1, ((300, 0), (45, 1), (52, 1))), [6, 0, 2])
        self.assert_greedy(laid_out(98, 1, ((300, 0), (45, 1), (52, 1))), [7, 299, 3])

    def test_empty_hoppers_are_left_out(self):
        self.assert_greedy(laid_out(100, 0, ((0, 0), (60, 1), (0, 0), (45, 3))), [10, 5, 2])
        self.assert_greedy((("create", 8, 60, 0), ("add_portion", 60)), [1, 0, 1])

    def test_the_target_is_not_reached(self):
        for before in (
            fresh(156, 60, 45, 50), (("create", 8, 1, 9),), laid_out(156, 1, ((60, 2), (45, 1), (50, 0))),
            (("create", 2, 100, 0), ("add_portions", 60, 30, 300)),
        ):
            assert_refused(self, before, ("greedy_set",), NONE_FILLS)

    def test_the_target_exactly_reached_by_all(self):
        self.assert_greedy(fresh(155, 60, 45, 50), [7, 0, 3])
        self.assert_greedy(fresh(8, *[1] * 8), [255, 0, 8])

    def test_the_ends_of_the_limits(self):
        self.assert_greedy(fresh(1, 300), [1, 299, 1])
        self.assert_greedy(fresh(999, *[300] * 8), [15, 201, 4])


class BestSetForTarget(unittest.TestCase):

    def test_the_excess_is_above_this_target(self):
        told = ask(*EXAMPLE, *[("best_set_for_target", target) for target in (1, 45, 46, 100, 106, 155)])
        self.assertEqual(told[2:], [[2, 44, 1], [2, 0, 1], [4, 4, 1], [3, 5, 2], [5, 4, 2], [7, 0, 3]])

    def test_it_answers_what_best_set_would(self):
        for before in (
            EXAMPLE,
            laid_out(100, 1, ((60, 0), (45, 1), (50, 2), (0, 0))),
            laid_out(300, 2, ((60, 0), (45, 1), (50, 2), (10, 0), (105, 0)), queue=(5, 6)),
        ):
            for target in (1, 44, 45, 50, 51, 95, 96, 100, 105, 106, 155, 156, 270, 271, 998, 999):
                with self.subTest(before=before, target=target):
                    told = ask_last(*before, ("best_set_for_target", target))
                    self.assertEqual(told, ask_last(*before, ("set_target", target), ("best_set",)))
                    assert_unchanged(self, before, ("best_set_for_target", target))

    def test_the_weighers_own_target_does_not_count(self):
        before = (*EXAMPLE, ("set_target", 999))
        self.assertEqual(ask_last(*before, ("best_set_for_target", 50)), [4, 0, 1])
        assert_refused(self, EXAMPLE, ("best_set_for_target", 156), NONE_FILLS)

    def test_it_contains_the_due_hoppers(self):
        before = laid_out(100, 1, ((60, 0), (45, 1), (50, 2)))
        self.assertEqual(ask_last(*before, ("best_set_for_target", 1)), [6, 94, 2])
        self.assertEqual(ask_last(*before, ("best_set_for_target", 96)), [7, 59, 3])

    def test_targets_outside_their_limits(self):
        for before in (EXAMPLE, fresh(999, 300), (("create", 1, 1, 0),)):
            for target in (0, 1000, GREATEST):
                with self.subTest(before=before, target=target):
                    assert_refused(self, before, ("best_set_for_target", target), OUTSIDE)

    def test_the_ends_of_target(self):
        before = (("create", 4, 500, 0), ("add_portions", 300, 300, 300, 99))
        told = ask(*before, ("best_set_for_target", 1), ("best_set_for_target", 999))
        self.assertEqual(told[2:], [[8, 98, 1], [15, 0, 4]])
        for target in (1, 999):
            assert_refused(self, (("create", 4, 500, 0),), ("best_set_for_target", target), NONE_FILLS)
