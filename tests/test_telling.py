import unittest

from asking import STATE_CALLS, ask, ask_last, laid_out


class GetHoppers(unittest.TestCase):

    def test_weight_and_age_of_each_hopper(self):
        told = ask(("create", 3, 100, 0), ("add_portions", 60, 45), ("get_hoppers",))
        self.assertEqual(told[2], [3, 60, 0, 45, 0, 0, 0])

    def test_1_hopper(self):
        told = ask(("create", 1, 1, 9), ("get_hoppers",), ("add_portion", 300), ("get_hoppers",))
        self.assertEqual(told, [[0], [1, 0, 0], [0], [1, 300, 0]])

    def test_8_hoppers(self):
        told = ask(("create", 8, 999, 0), ("add_portions", *range(1, 9)), ("get_hoppers",))
        self.assertEqual(told[2], [8, 1, 0, 2, 0, 3, 0, 4, 0, 5, 0, 6, 0, 7, 0, 8, 0])


class GetQueue(unittest.TestCase):

    def test_an_empty_queue(self):
        self.assertEqual(ask_last(("create", 3, 100, 0), ("get_queue",)), [0])
        self.assertEqual(ask_last(("create", 3, 100, 0), ("add_portions", 1, 2, 3), ("get_queue",)), [0])

    def test_weights_in_order_of_arrival(self):
        told = ask_last(("create", 1, 100, 0), ("add_portions", 9, 30, 10, 20, 10), ("get_queue",))
        self.assertEqual(told, [4, 30, 10, 20, 10])

    def test_a_queue_of_24_portions(self):
        told = ask_last(("create", 1, 100, 0), ("add_portions", *range(1, 26)), ("get_queue",))
        self.assertEqual(told, [24, *range(2, 26)])


class DueHoppers(unittest.TestCase):

    def test_without_a_limit_none_is_due(self):
        told = ask_last(("create", 3, 100, 0), ("add_portions", 60, 45), ("due_hoppers",))
        self.assertEqual(told, [0])

    def test_a_portion_of_age_0_is_not_due(self):
        for max_age in range(1, 10):
            told = ask(
                ("create", 3, 100, max_age), ("due_hoppers",),
                ("add_portions", 60, 45, 50, 70), ("due_hoppers",),
                ("set_max_age", 0), ("due_hoppers",),
            )
            self.assertEqual([told[1], told[3], told[5]], [[0], [0], [0]])


class Telling(unittest.TestCase):

    def test_it_changes_nothing(self):
        asked = STATE_CALLS[:5] + (
            ("weight_of", 5), ("can_fill", 5), ("best_set",), ("greedy_set",), ("best_set_for_target", 70),
            ("preview_run", 2), ("reachable_weights",),
        )
        for before in (
            (("create", 3, 100, 4), ("add_portions", 60, 45, 50, 70)),
            laid_out(100, 2, ((60, 1), (0, 0), (45, 2)), queue=(50, 70)),
            laid_out(200, 2, ((60, 1), (0, 0), (45, 2))),
        ):
            told = ask(*before, *asked, *asked, *asked)[len(before):]
            self.assertEqual(told, told[:len(asked)] * 3)
