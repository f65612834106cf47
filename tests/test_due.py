import unittest

from asking import FULL, OUTSIDE, ask, ask_last, assert_refused, laid_out


class DueHoppers(unittest.TestCase):

    def test_the_age_limit_exactly_reached(self):
        before = laid_out(100, 2, ((60, 1), (45, 2), (50, 0), (70, 3)))
        self.assertEqual(ask_last(*before, ("due_hoppers",)), [2, 1, 3])

    def test_each_age_limit(self):
        before = laid_out(100, 0, [(10, age) for age in range(7, -1, -1)])
        self.assertEqual(ask_last(*before, ("due_hoppers",)), [0])
        for max_age in range(1, 10):
            due = list(range(max(0, 8 - max_age)))
            told = ask_last(*before, ("set_max_age", max_age), ("due_hoppers",))
            self.assertEqual(told, [len(due), *due])

    def test_7_of_8_hoppers(self):
        before = laid_out(100, 9, [(10, 9)] * 7 + [(10, 0)])
        self.assertEqual(ask_last(*before, ("due_hoppers",)), [7, 0, 1, 2, 3, 4, 5, 6])

    def test_an_empty_hopper_is_never_due(self):
        before = laid_out(50, 1, ((60, 1), (0, 0), (0, 0)))
        self.assertEqual(ask_last(*before, ("due_hoppers",)), [1, 0])
        self.assertEqual(ask_last(*before, ("fill_bag", 1), ("due_hoppers",)), [0])

    def test_a_hopper_whose_due_portion_was_packed_is_not_due(self):
        for queue in ((), (70,)):
            before = laid_out(100, 1, ((60, 1), (45, 0)), queue=queue)
            told = ask(*before, ("due_hoppers",), ("fill_bag", 3), ("due_hoppers",))
            self.assertEqual(told[-3:], [[1, 0], [5], [0]])

    def test_ages_are_told(self):
        before = laid_out(100, 2, ((60, 1), (45, 12), (0, 0)))
        self.assertEqual(ask_last(*before, ("get_hoppers",)), [3, 60, 1, 45, 12, 0, 0])


class SetsWithDueHoppers(unittest.TestCase):

    PORTIONS = ((60, 2), (45, 0), (50, 2))

    def fillable(self, *before):
        """What can_fill says of each set, and filling_set_count of them all."""
        told = ask(*before, *[("can_fill", mask) for mask in range(8)], ("filling_set_count",))
        return told[len(before):-1], told[-1]

    def test_a_set_that_fills_contains_all_due_hoppers(self):
        each, count = self.fillable(*laid_out(100, 2, self.PORTIONS))
        self.assertEqual(each, [[0], [0], [0], [0], [0], [1], [0], [1]])
        self.assertEqual(count, [2])

    def test_due_hoppers_alone_do_not_fill(self):
        each, count = self.fillable(*laid_out(111, 2, self.PORTIONS))
        self.assertEqual(each, [[0], [0], [0], [0], [0], [0], [0], [1]])
        self.assertEqual(count, [1])

    def test_without_a_limit_they_are_not_asked_for(self):
        each, count = self.fillable(*laid_out(100, 0, self.PORTIONS))
        self.assertEqual(each, [[0], [0], [0], [1], [0], [1], [0], [1]])
        self.assertEqual(count, [3])

    def test_a_missing_hopper_is_refused_all_the_same(self):
        assert_refused(self, laid_out(100, 2, self.PORTIONS), ("can_fill", 13), OUTSIDE)

    def test_some_set_fills_just_when_all_hoppers_weigh_enough(self):
        for target, count in ((154, 1), (155, 1), (156, 0)):
            before = laid_out(target, 1, ((60, 2), (45, 1), (50, 0)))
            self.assertEqual(ask_last(*before, ("filling_set_count",)), [count])


class ArrivalsPastAQueue(unittest.TestCase):

    # A queue of 24 portions, and hopper 1 of 3 is empty.
    BEFORE = laid_out(100, 0, ((10, 4), (0, 0), (10, 2)), queue=range(101, 125))

    def test_one_portion_is_refused_even_if_a_hopper_is_empty(self):
        self.assertEqual(ask_last(*self.BEFORE, ("get_hoppers",)), [3, 10, 4, 0, 0, 10, 2])
        for weight in (1, 20, 300):
            assert_refused(self, self.BEFORE, ("add_portion", weight), FULL)

    def test_a_wrong_weight_comes_ahead(self):
        for weight in (0, 301):
            assert_refused(self, self.BEFORE, ("add_portion", weight), OUTSIDE)
            assert_refused(self, self.BEFORE, ("add_portions", weight), OUTSIDE)
        assert_refused(self, self.BEFORE, ("add_portions",), OUTSIDE)

    def test_several_are_taken_in_if_the_queue_stays_within_24(self):
        assert_refused(self, self.BEFORE, ("add_portions", 20, 30), FULL)
        told = ask(*self.BEFORE, ("add_portions", 20), ("get_hoppers",), ("get_queue",))
        self.assertEqual(told[-3:], [[24], [3, 10, 4, 20, 0, 10, 2], [24, *range(101, 125)]])
        assert_refused(self, (*self.BEFORE, ("add_portions", 20)), ("add_portions", 30), FULL)

    def test_as_many_as_there_are_empty_hoppers(self):
        before = (*self.BEFORE, ("discard", 0), ("discard", 2))
        assert_refused(self, before, ("add_portion", 20), FULL)
        assert_refused(self, before, ("add_portions", 20, 30, 40, 50), FULL)
        told = ask(*before, ("add_portions", 20, 30, 40), ("get_hoppers",), ("get_queue",))
        self.assertEqual(told[-3:], [[24], [3, 20, 0, 30, 0, 40, 0], [24, *range(101, 125)]])

    def test_there_is_room_again_when_a_bag_was_filled(self):
        told = ask(*self.BEFORE, ("set_target", 1), ("fill_bag", 2 + 4), ("add_portion", 20), ("get_queue",))
        self.assertEqual(told[-3:], [[9], [23], [23, *range(103, 125), 20]])

    def test_an_arrival_goes_to_an_empty_hopper_even_if_a_queue_waits(self):
        before = laid_out(100, 0, ((0, 0), (45, 1), (0, 0)), queue=(50, 51))
        told = ask(*before, ("add_portion", 70), ("get_hoppers",), ("get_queue",), ("add_portion", 80),
                   ("get_hoppers",), ("add_portion", 90), ("get_queue",))
        self.assertEqual(told[-7:], [
            [2], [3, 70, 0, 45, 1, 0, 0], [2, 50, 51],
            [2], [3, 70, 0, 45, 1, 80, 0],
            [3], [3, 50, 51, 90],
        ])
