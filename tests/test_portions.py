import unittest

from asking import FULL, GREATEST, OUTSIDE, ask, ask_last, assert_refused, state_after

NEW = ("create", 3, 100, 0)
WRONG_WEIGHTS = (0, 301, GREATEST)


def filled(hopper_count, queue_length):
    """A weigher with full hoppers and so many portions in its queue."""
    portions = [("add_portion", 10)] * (hopper_count + queue_length)
    return (("create", hopper_count, 100, 0), *portions)


class AddPortion(unittest.TestCase):

    def test_arrivals_go_to_the_hoppers_in_order_and_then_to_the_queue(self):
        told = ask(
            NEW, ("add_portion", 60), ("add_portion", 45), ("get_hoppers",),
            ("add_portion", 50), ("add_portion", 70), ("add_portion", 20),
            ("get_hoppers",), ("get_queue",),
        )
        self.assertEqual(told, [
            [0], [0], [0], [3, 60, 0, 45, 0, 0, 0],
            [0], [1], [2],
            [3, 60, 0, 45, 0, 50, 0], [2, 70, 20],
        ])

    def test_the_ends_of_weight(self):
        for weight in (1, 2, 299, 300):
            told = ask(("create", 1, 100, 0), ("add_portion", weight), ("get_hoppers",))
            self.assertEqual(told[1:], [[0], [1, weight, 0]])

    def test_weights_outside_their_limits(self):
        for weight in WRONG_WEIGHTS:
            with self.subTest(weight=weight):
                assert_refused(self, (NEW, ("add_portion", 60)), ("add_portion", weight), OUTSIDE)

    def test_24_portions_fill_the_queue(self):
        for hopper_count in (1, 8):
            with self.subTest(hopper_count=hopper_count):
                before = filled(hopper_count, 23)
                self.assertEqual(ask_last(*before), [23])
                self.assertEqual(ask_last(*before, ("add_portion", 10)), [24])
                assert_refused(self, filled(hopper_count, 24), ("add_portion", 10), FULL)

    def test_a_wrong_weight_comes_ahead_of_a_full_queue(self):
        for weight in WRONG_WEIGHTS:
            with self.subTest(weight=weight):
                assert_refused(self, filled(1, 24), ("add_portion", weight), OUTSIDE)


class AddPortions(unittest.TestCase):

    def test_arrivals_go_in_the_order_of_the_list(self):
        told = ask(
            NEW, ("add_portions", 60, 45, 50, 70, 20), ("get_hoppers",), ("get_queue",),
            ("add_portions", 90, 5), ("get_queue",),
        )
        self.assertEqual(told, [
            [0], [2], [3, 60, 0, 45, 0, 50, 0], [2, 70, 20],
            [4], [4, 70, 20, 90, 5],
        ])

    def test_lists_that_leave_the_queue_empty(self):
        told = ask(NEW, ("add_portions", 60), ("add_portions", 45, 50), ("get_hoppers",), ("get_queue",))
        self.assertEqual(told, [[0], [0], [0], [3, 60, 0, 45, 0, 50, 0], [0]])

    def test_it_does_what_single_arrivals_do(self):
        weights = list(range(1, 21))
        single = [("add_portion", weight) for weight in weights]
        self.assertEqual(state_after(NEW, ("add_portions", *weights)), state_after(NEW, *single))

    def test_the_ends_of_weight(self):
        told = ask(("create", 2, 100, 0), ("add_portions", 1, 300), ("get_hoppers",))
        self.assertEqual(told[1:], [[0], [2, 1, 0, 300, 0]])

    def test_a_list_of_no_weights(self):
        assert_refused(self, (NEW, ("add_portion", 60)), ("add_portions",), OUTSIDE)

    def test_weights_outside_their_limits_in_each_place(self):
        for wrong in WRONG_WEIGHTS:
            for place in range(5):
                weights = [60, 45, 50, 70, 20]
                weights[place] = wrong
                with self.subTest(weights=weights):
                    assert_refused(self, (NEW, ("add_portion", 60)), ("add_portions", *weights), OUTSIDE)

    def test_30_weights_that_just_fit(self):
        weights = list(range(101, 131))
        told = ask(("create", 6, 100, 0), ("add_portions", *weights), ("get_hoppers",), ("get_queue",))
        hoppers = [6, 101, 0, 102, 0, 103, 0, 104, 0, 105, 0, 106, 0]
        self.assertEqual(told, [[0], [24], hoppers, [24, *range(107, 131)]])
        self.assertEqual(ask_last(("create", 8, 100, 0), ("add_portions", *weights)), [22])

    def test_30_weights_that_do_not_fit(self):
        for hopper_count in (1, 5):
            with self.subTest(hopper_count=hopper_count):
                assert_refused(self, (("create", hopper_count, 100, 0),), ("add_portions", *[10] * 30), FULL)

    def test_how_many_fit_depends_on_hoppers_and_queue(self):
        for hopper_count in (1, 3, 8):
            for already in (0, 1, hopper_count, hopper_count + 5):
                room = hopper_count + 24 - already
                if room > 29:
                    continue
                before = (("create", hopper_count, 100, 0), *[("add_portion", 10)] * already)
                with self.subTest(hopper_count=hopper_count, already=already):
                    self.assertEqual(ask_last(*before, ("add_portions", *[20] * room)), [24])
                    assert_refused(self, before, ("add_portions", *[20] * (room + 1)), FULL)

    def test_a_full_queue(self):
        assert_refused(self, filled(2, 24), ("add_portions", 10), FULL)

    def test_a_wrong_list_comes_ahead_of_a_full_queue(self):
        assert_refused(self, filled(1, 24), ("add_portions",), OUTSIDE)
        for weight in WRONG_WEIGHTS:
            with self.subTest(weight=weight):
                assert_refused(self, filled(1, 24), ("add_portions", weight), OUTSIDE)
                assert_refused(self, filled(1, 0), ("add_portions", *[10] * 29, weight), OUTSIDE)


class Balance(unittest.TestCase):

    def test_all_that_was_taken_in_lies_in_hoppers_and_queue(self):
        calls = [("create", 4, 100, 0)]
        taken_in = 0
        for weights in ((60, 45, 50), (300,), (0, 5), (1, 2, 3, 4), (), (301,), tuple(range(1, 28)), (7, 8)):
            calls.append(("add_portions", *weights))
            told = ask(*calls, ("get_hoppers",), ("get_queue",))
            if told[-3][0] >= 0:
                taken_in += sum(weights)
            self.assertEqual(sum(told[-2][1::2]) + sum(told[-1][1:]), taken_in)
        self.assertEqual(taken_in, 155 + 300 + 10 + 15)
