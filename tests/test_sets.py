import unittest

from asking import GREATEST, OUTSIDE, ask, ask_last, assert_refused

# The hoppers of the document's example.
EXAMPLE = (("create", 3, 100, 0), ("add_portions", 60, 45, 50))
# Hopper 2 is empty.
WITH_EMPTY = (("create", 3, 100, 0), ("add_portions", 60, 40))


def plain_weight(weights, mask):
    """The weight of a set, by repeated halving of its mask."""
    total = 0
    for weight in weights:
        if mask % 2 == 1:
            total += weight
        mask //= 2
    return total


class WeightOf(unittest.TestCase):

    def test_each_set_of_the_example(self):
        told = ask(*EXAMPLE, *[("weight_of", mask) for mask in range(8)])
        self.assertEqual(told[2:], [[0], [60], [45], [105], [50], [110], [95], [155]])

    def test_sets_that_contain_empty_hoppers(self):
        told = ask(*WITH_EMPTY, *[("weight_of", mask) for mask in range(8)])
        self.assertEqual(told[2:], [[0], [60], [40], [100], [0], [60], [40], [100]])

    def test_the_queue_does_not_count(self):
        self.assertEqual(ask_last(*EXAMPLE, ("add_portion", 300), ("weight_of", 7)), [155])

    def test_sets_of_1_hopper(self):
        before = (("create", 1, 1, 0), ("add_portion", 300))
        self.assertEqual(ask(*before, ("weight_of", 0), ("weight_of", 1))[2:], [[0], [300]])

    def test_sets_of_8_hoppers(self):
        weights = [3, 5, 11, 23, 47, 95, 191, 300]
        before = (("create", 8, 1, 0), ("add_portions", *weights))
        for mask in range(256):
            self.assertEqual(ask_last(*before, ("weight_of", mask)), [plain_weight(weights, mask)])


class SetsWithMissingHoppers(unittest.TestCase):

    def test_each_hopper_count(self):
        for hopper_count in range(1, 9):
            before = (("create", hopper_count, 1, 0), ("add_portions", *[300] * hopper_count))
            limit = 2 ** hopper_count
            for name, least in (("weight_of", [300 * hopper_count]), ("can_fill", [1])):
                self.assertEqual(ask_last(*before, (name, limit - 1)), least)
                for mask in (limit, limit + 1, 2 * limit - 1, 2 ** 31, GREATEST):
                    with self.subTest(name=name, hopper_count=hopper_count, mask=mask):
                        assert_refused(self, before, (name, mask), OUTSIDE)


class CanFill(unittest.TestCase):

    def test_each_set_of_the_example(self):
        told = ask(*EXAMPLE, *[("can_fill", mask) for mask in range(8)])
        self.assertEqual(told[2:], [[0], [0], [0], [1], [0], [1], [0], [1]])

    def test_the_target_exactly_reached(self):
        told = ask(
            *EXAMPLE, ("set_target", 105), ("can_fill", 3), ("set_target", 106), ("can_fill", 3),
            ("set_target", 104), ("can_fill", 3),
        )
        self.assertEqual([told[3], told[5], told[7]], [[1], [0], [1]])

    def test_sets_that_contain_empty_hoppers(self):
        told = ask(*WITH_EMPTY, *[("can_fill", mask) for mask in range(8)])
        self.assertEqual(told[2:], [[0], [0], [0], [1], [0], [0], [0], [1]])

    def test_a_set_of_empty_hoppers_fills_no_bag(self):
        told = ask(("create", 2, 1, 0), *[("can_fill", mask) for mask in range(4)])
        self.assertEqual(told[1:], [[0]] * 4)

    def test_the_ends_of_target(self):
        before = (("create", 8, 1, 0), ("add_portions", 1, 299, 300, 300, 100))
        told = ask(*before, ("can_fill", 0), ("can_fill", 1), ("set_target", 999), ("can_fill", 30), ("can_fill", 29))
        self.assertEqual([told[2], told[3], told[5], told[6]], [[0], [1], [1], [0]])

    def test_without_due_hoppers_no_hopper_is_asked_for(self):
        for max_age in (0, 1, 9):
            told = ask(("create", 2, 50, max_age), ("add_portions", 50, 50), ("can_fill", 1), ("can_fill", 2))
            self.assertEqual(told[2:], [[1], [1]])

    def test_the_queue_does_not_count(self):
        self.assertEqual(ask_last(("create", 1, 100, 0), ("add_portions", 60, 60), ("can_fill", 1)), [0])


class FillingSetCount(unittest.TestCase):

    def test_the_example(self):
        self.assertEqual(ask_last(*EXAMPLE, ("filling_set_count",)), [3])

    def test_the_target_exactly_reached(self):
        for target, count in ((154, 1), (155, 1), (156, 0), (110, 2), (111, 1)):
            self.assertEqual(ask_last(*EXAMPLE, ("set_target", target), ("filling_set_count",)), [count])

    def test_sets_that_contain_empty_hoppers_count_too(self):
        self.assertEqual(ask_last(*WITH_EMPTY, ("filling_set_count",)), [2])
        self.assertEqual(ask_last(("create", 8, 50, 0), ("add_portion", 50), ("filling_set_count",)), [128])

    def test_empty_hoppers_fill_no_bag(self):
        for hopper_count in (1, 8):
            self.assertEqual(ask_last(("create", hopper_count, 1, 0), ("filling_set_count",)), [0])

    def test_1_hopper(self):
        before = (("create", 1, 60, 0), ("add_portion", 60))
        self.assertEqual(ask(*before, ("filling_set_count",))[2], [1])
        self.assertEqual(ask_last(*before, ("set_target", 61), ("filling_set_count",)), [0])

    def test_8_hoppers(self):
        before = (("create", 8, 1, 0), ("add_portions", *[300] * 8))
        self.assertEqual(ask_last(*before, ("filling_set_count",)), [255])
        self.assertEqual(ask_last(*before, ("set_target", 999), ("filling_set_count",)), [163])

    def test_it_counts_the_sets_that_can_fill_says(self):
        weights = (17, 300, 1, 44)
        for target in (1, 2, 44, 45, 61, 62, 300, 345, 362, 363):
            before = (("create", 5, target, 3), ("add_portions", *weights))
            told = ask(*before, ("filling_set_count",), *[("can_fill", mask) for mask in range(32)])
            self.assertEqual(told[2], [sum(answer for (answer,) in told[3:])])
            self.assertEqual(told[2], [len([m for m in range(32) if plain_weight(weights, m) >= target])])

    def test_some_set_fills_just_when_all_hoppers_weigh_enough(self):
        for weights in ((1,), (60, 45, 50), (300, 300, 300), (7, 8, 9, 10, 60)):
            total = sum(weights[:3])
            for target in (total - 1, total, total + 1, 999):
                if not 1 <= target <= 999:
                    continue
                before = (("create", 3, target, 0), ("add_portions", *weights))
                (count,) = ask_last(*before, ("filling_set_count",))
                self.assertEqual(count > 0, total >= target)
