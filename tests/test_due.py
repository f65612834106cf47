"""Tests of states that the calls written so far can't reach.

No call fills a bag or empties a hopper yet, so ages and empty hoppers are set by hand here.
"""

import unittest

from hopperset.state import Weigher
from hopperset.weigher import add_portion, add_portions, can_fill, due_hoppers
from hopperset.weigher import filling_set_count, get_hoppers, set_max_age


def aged_weigher(hopper_count, target, max_age, portions):
    """A weigher with these portions, each a weight and an age, in its hoppers."""
    weigher = Weigher(hopper_count, target, max_age)
    for weight, age in portions:
        weigher.arrive(weight)
    for hopper, (weight, age) in zip(weigher.hoppers, portions):
        hopper.age = age
    return weigher


class DueHoppers(unittest.TestCase):

    def test_the_age_limit_exactly_reached(self):
        weigher = aged_weigher(4, 100, 2, ((60, 1), (45, 2), (50, 0), (70, 3)))
        self.assertEqual(due_hoppers(weigher, []), [2, 1, 3])

    def test_each_age_limit(self):
        weigher = aged_weigher(8, 100, 0, [(10, age) for age in range(8, 0, -1)])
        self.assertEqual(due_hoppers(weigher, []), [0])
        for max_age in range(1, 10):
            set_max_age(weigher, [max_age])
            due = list(range(9 - max_age))
            self.assertEqual(due_hoppers(weigher, []), [len(due), *due])

    def test_all_of_8_hoppers(self):
        weigher = aged_weigher(8, 100, 9, [(10, 9)] * 8)
        self.assertEqual(due_hoppers(weigher, []), [8, 0, 1, 2, 3, 4, 5, 6, 7])

    def test_an_empty_hopper_is_never_due(self):
        weigher = aged_weigher(3, 100, 1, ((60, 1),))
        self.assertEqual(due_hoppers(weigher, []), [1, 0])

    def test_ages_are_told(self):
        weigher = aged_weigher(3, 100, 2, ((60, 1), (45, 12)))
        self.assertEqual(get_hoppers(weigher, []), [3, 60, 1, 45, 12, 0, 0])


class SetsWithDueHoppers(unittest.TestCase):

    def test_a_set_that_fills_contains_all_due_hoppers(self):
        weigher = aged_weigher(3, 100, 2, ((60, 2), (45, 1), (50, 2)))
        told = [can_fill(weigher, [mask]) for mask in range(8)]
        self.assertEqual(told, [[0], [0], [0], [0], [0], [1], [0], [1]])
        self.assertEqual(filling_set_count(weigher, []), [2])

    def test_due_hoppers_alone_do_not_fill(self):
        weigher = aged_weigher(3, 111, 2, ((60, 2), (45, 1), (50, 2)))
        told = [can_fill(weigher, [mask]) for mask in range(8)]
        self.assertEqual(told, [[0], [0], [0], [0], [0], [0], [0], [1]])
        self.assertEqual(filling_set_count(weigher, []), [1])

    def test_without_a_limit_they_are_not_asked_for(self):
        weigher = aged_weigher(3, 100, 0, ((60, 2), (45, 1), (50, 2)))
        told = [can_fill(weigher, [mask]) for mask in range(8)]
        self.assertEqual(told, [[0], [0], [0], [1], [0], [1], [0], [1]])
        self.assertEqual(filling_set_count(weigher, []), [3])

    def test_a_missing_hopper_is_refused_all_the_same(self):
        weigher = aged_weigher(3, 100, 2, ((60, 2), (45, 1), (50, 2)))
        self.assertEqual(can_fill(weigher, [13]), [-22])

    def test_some_set_fills_just_when_all_hoppers_weigh_enough(self):
        for target, count in ((154, 1), (155, 1), (156, 0)):
            weigher = aged_weigher(3, target, 1, ((60, 2), (45, 1), (50, 0)))
            self.assertEqual(filling_set_count(weigher, []), [count])


class ArrivalsPastAQueue(unittest.TestCase):

    def full_weigher(self):
        """A queue of 24 portions, and hopper 1 of 3 is empty."""
        weigher = aged_weigher(3, 100, 0, [(10, 4)] * 27)
        weigher.hoppers[1].load(0)
        return weigher

    def test_one_portion_is_refused_even_if_a_hopper_is_empty(self):
        weigher = self.full_weigher()
        self.assertEqual(add_portion(weigher, [20]), [-28])
        self.assertEqual(add_portion(weigher, [301]), [-22])
        self.assertEqual(get_hoppers(weigher, []), [3, 10, 4, 0, 0, 10, 4])
        self.assertEqual(weigher.received, 270)

    def test_several_are_taken_in_if_the_queue_stays_within_24(self):
        weigher = self.full_weigher()
        self.assertEqual(add_portions(weigher, [20, 30]), [-28])
        self.assertEqual(weigher.received, 270)
        self.assertEqual(add_portions(weigher, [20]), [24])
        self.assertEqual(get_hoppers(weigher, []), [3, 10, 4, 20, 0, 10, 4])
        self.assertEqual(weigher.received, 290)

    def test_an_arrival_goes_to_an_empty_hopper_even_if_a_queue_waits(self):
        weigher = aged_weigher(2, 100, 0, ((60, 1), (45, 1), (50, 0)))
        weigher.hoppers[0].load(0)
        self.assertEqual(add_portion(weigher, [70]), [1])
        self.assertEqual(get_hoppers(weigher, []), [2, 70, 0, 45, 1])
        self.assertEqual(weigher.queue, [50])


class Balance(unittest.TestCase):

    def test_a_new_weigher_has_received_and_packed_nothing(self):
        weigher = Weigher(3, 100, 0)
        self.assertEqual((weigher.received, weigher.packed, weigher.bag_count), (0, 0, 0))

    def test_received_is_what_lies_in_hoppers_and_queue(self):
        weigher = Weigher(2, 100, 0)
        for weights, received in (([60], 60), ([45, 50], 155), ([0, 7], 155), ([9] * 24, 155), ([300], 455)):
            add_portions(weigher, weights)
            self.assertEqual(weigher.received, received)
            in_hoppers = sum(hopper.weight for hopper in weigher.hoppers)
            self.assertEqual(in_hoppers + sum(weigher.queue), received)
        add_portion(weigher, [5])
        add_portion(weigher, [0])
        self.assertEqual(weigher.received, 460)
