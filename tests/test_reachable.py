import unittest

from asking import ask, ask_last, assert_unchanged, laid_out

EXAMPLE = (("create", 3, 100, 0), ("add_portions", 60, 45, 50))


class ReachableWeights(unittest.TestCase):

    def assert_reachable(self, before, *weights):
        self.assertEqual(ask_last(*before, ("reachable_weights",)), [len(weights), *weights])
        assert_unchanged(self, before, ("reachable_weights",))

    def test_the_example(self):
        # 45 and 50 weigh 95, all three 155.
        self.assert_reachable(EXAMPLE, 105, 110)

    def test_the_weights_at_both_ends(self):
        before = (("create", 4, 100, 0), ("add_portions", 99, 119, 100, 120))
        self.assert_reachable(before, 119, 100)
        self.assert_reachable((*before, ("set_target", 99)), 99, 100)
        self.assert_reachable((*before, ("set_target", 101)), 119, 120)
        self.assert_reachable((*before, ("set_target", 120)), 120)

    def test_each_weight_from_20_below_to_40_above(self):
        for weight in range(80, 141):
            before = (("create", 1, 100, 0), ("add_portion", weight))
            self.assert_reachable(before, *[weight][:100 <= weight <= 119])

    def test_ordered_by_the_smallest_mask(self):
        self.assert_reachable((("create", 3, 100, 0), ("add_portions", 110, 105, 101)), 110, 105, 101)
        self.assert_reachable((("create", 3, 10, 0), ("add_portions", 20, 3, 10)), 20, 23, 10, 13)
        self.assert_reachable((("create", 3, 10, 0), ("add_portions", 10, 3, 1)), 10, 13, 11, 14)

    def test_each_weight_once(self):
        self.assert_reachable((("create", 4, 100, 0), ("add_portions", 100, 100, 60, 40)), 100)
        # 10 is the weight of the masks 1 and 4, 21 that of 3 and 6; each stands where the smaller mask does.
        self.assert_reachable((("create", 3, 10, 0), ("add_portions", 10, 11, 10)), 10, 11, 21, 20)
        self.assert_reachable((("create", 8, 4, 0), ("add_portions", *[1] * 8)), 4, 5, 6, 7, 8)

    def test_all_20_weights(self):
        before = (("create", 8, 5, 0), ("add_portions", 1, 2, 4, 8, 16, 32, 64, 128))
        self.assert_reachable(before, *range(5, 25))
        self.assert_reachable((*before, ("set_target", 240)), *range(240, 256))

    def test_no_weight(self):
        self.assert_reachable((("create", 8, 1, 0),))
        self.assert_reachable((*EXAMPLE, ("set_target", 156)))
        self.assert_reachable((("create", 1, 1, 0), ("add_portion", 21)))

    def test_sets_without_the_due_hoppers_count_too(self):
        portions = ((60, 0), (45, 1), (50, 2))
        for max_age in (0, 1, 2):
            self.assert_reachable(laid_out(100, max_age, portions), 105, 110)
            self.assert_reachable(laid_out(45, max_age, portions), 60, 45, 50)

    def test_empty_hoppers_and_the_queue_add_nothing(self):
        self.assert_reachable(laid_out(100, 0, ((60, 0), (0, 0), (45, 1)), queue=(50,)), 105)
        self.assert_reachable((("create", 1, 100, 0), ("add_portions", 60, 45)))

    def test_8_heavy_hoppers(self):
        told = ask(("create", 8, 999, 0), ("add_portions", *[300] * 8), ("reachable_weights",),
                   ("set_target", 900), ("reachable_weights",), ("set_target", 881), ("reachable_weights",),
                   ("set_target", 880), ("reachable_weights",))
        self.assertEqual(told[2:], [[0], [999], [1, 900], [900], [1, 900], [881], [0]])
