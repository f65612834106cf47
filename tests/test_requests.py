import unittest

from asking import CALL_NUMBERS, FULL, GREATEST, NO_WEIGHER, OUTSIDE, ask, request, split
from hopperset.weigher import answers

# Each call but create, with right numbers and with wrong ones.
NEEDING_A_WEIGHER = (
    ("add_portion", 60),
    ("add_portion", 0),
    ("add_portion", GREATEST),
    ("add_portions", 60, 45, 50),
    ("add_portions",),
    ("add_portions", 0),
    ("add_portions", *[GREATEST] * 30),
    ("set_target", 100),
    ("set_target", 0),
    ("set_target", GREATEST),
    ("set_max_age", 0),
    ("set_max_age", 10),
    ("set_max_age", GREATEST),
    ("get_hoppers",),
    ("get_queue",),
    ("due_hoppers",),
    ("weight_of", 0),
    ("weight_of", 256),
    ("weight_of", GREATEST),
    ("can_fill", 0),
    ("can_fill", 256),
    ("can_fill", GREATEST),
    ("filling_set_count",),
    ("best_set",),
    ("greedy_set",),
    ("fill_bag", 1),
    ("fill_bag", 256),
    ("fill_bag", GREATEST),
    ("fill_best_bag",),
    ("run", 1),
    ("run", 0),
    ("run", 13),
    ("run", GREATEST),
    ("best_set_for_target", 100),
    ("best_set_for_target", 0),
    ("best_set_for_target", 1000),
    ("best_set_for_target", GREATEST),
    ("preview_run", 1),
    ("preview_run", 0),
    ("preview_run", 13),
    ("preview_run", GREATEST),
    ("reachable_weights",),
    ("totals",),
    ("discard", 0),
    ("discard", 8),
    ("discard", GREATEST),
)

# The document's example and its results.
EXAMPLE = (
    ("create", 3, 100, 0), ("add_portions", 60, 45, 50), ("best_set",), ("greedy_set",), ("can_fill", 6),
    ("add_portion", 70), ("fill_best_bag",), ("get_hoppers",), ("totals",), ("fill_bag", 1),
)
EXAMPLE_TOLD = [
    [0], [0], [3, 5, 2], [5, 10, 2], [0], [1], [3, 5, 2], [3, 70, 0, 0, 0, 50, 1], [1, 225, 105, 120, 0], [-33],
]


class NoWeigher(unittest.TestCase):

    def test_each_call_at_the_beginning(self):
        for asked in NEEDING_A_WEIGHER:
            with self.subTest(asked=asked):
                self.assertEqual(ask(asked), [NO_WEIGHER])

    def test_each_call_is_tried(self):
        tried = {asked[0] for asked in NEEDING_A_WEIGHER}
        self.assertEqual(tried, set(CALL_NUMBERS) - {"create"})

    def test_each_call_behind_a_failed_create(self):
        for asked in NEEDING_A_WEIGHER:
            with self.subTest(asked=asked):
                self.assertEqual(ask(("create", 9, 100, 0), asked), [OUTSIDE, NO_WEIGHER])

    def test_what_was_refused_leaves_nothing(self):
        told = ask(("add_portion", 60), ("set_target", 5), ("create", 1, 100, 0), ("get_hoppers",), ("set_target", 1))
        self.assertEqual(told, [NO_WEIGHER, NO_WEIGHER, [0], [1, 0, 0], [100]])


class Form(unittest.TestCase):

    def test_the_example(self):
        self.assertEqual(ask(*EXAMPLE), EXAMPLE_TOLD)

    def test_the_example_as_numbers(self):
        calls = [
            0, 3, 3, 100, 0, 0, 2, 3, 60, 45, 50, 0, 11, 0, 0, 12, 0, 0, 9, 1, 6, 0,
            1, 1, 70, 0, 14, 0, 0, 5, 0, 0, 19, 0, 0, 13, 1, 1, 0,
        ]
        told = [
            1, 0, 1, 0, 3, 3, 5, 2, 3, 5, 10, 2, 1, 0,
            1, 1, 3, 3, 5, 2, 7, 3, 70, 0, 0, 0, 50, 1, 5, 1, 225, 105, 120, 0, 1, -33,
        ]
        self.assertEqual(answers(calls), told)

    def test_each_call_as_numbers(self):
        calls = []
        told = []
        for more_calls, more_told in (
            ([0, 3, 2, 50, 7, 0], [1, 0]),
            ([1, 1, 40, 0], [1, 0]),
            ([2, 3, 20, 30, 10, 0], [1, 2]),
            ([3, 1, 60, 0], [1, 50]),
            ([4, 1, 3, 0], [1, 7]),
            ([5, 0, 0], [5, 2, 40, 0, 20, 0]),
            ([6, 0, 0], [3, 2, 30, 10]),
            ([7, 0, 0], [1, 0]),
            ([8, 1, 3, 0], [1, 60]),
            ([9, 1, 3, 0], [1, 1]),
            ([10, 0, 0], [1, 1]),
            ([2, 0, 0], [1, -22]),
            ([11, 0, 0], [3, 3, 0, 2]),
            ([12, 0, 0], [3, 3, 0, 2]),
            ([16, 1, 35, 0], [3, 1, 5, 1]),
            ([17, 1, 2, 0], [2, 1, 0]),
            ([18, 0, 0], [2, 1, 60]),
            ([13, 1, 3, 0], [1, 0]),
            ([14, 0, 0], [1, -33]),
            ([15, 1, 12, 0], [2, 0, 0]),
            ([19, 0, 0], [5, 1, 100, 60, 40, 0]),
            ([20, 1, 1, 0], [1, 10]),
        ):
            calls += more_calls
            told += more_told
            self.assertEqual(answers(calls), told)

    def test_a_refusal_is_its_code_alone(self):
        self.assertEqual(answers([5, 0, 0]), [1, -11])
        self.assertEqual(answers([0, 3, 0, 1, 0, 0]), [1, -22])
        full = ask(("create", 1, 1, 0), ("add_portions", *[1] * 25), ("add_portion", 1))
        self.assertEqual(full, [[0], [24], FULL])
        self.assertEqual(answers([0, 3, 1, 1, 0, 0, 11, 0, 0, 16, 1, 1, 0]), [1, 0, 1, -33, 1, -33])
        self.assertEqual(answers([0, 3, 1, 1, 0, 0, 20, 1, 1, 0, 20, 1, 0, 0]), [1, 0, 1, -2, 1, -6])

    def test_the_longest_request(self):
        calls = request(*[("add_portions", *[GREATEST] * 30)] * 60)
        self.assertEqual(len(calls), 1980)
        self.assertEqual(split(answers(calls), 60), [NO_WEIGHER] * 60)

    def test_60_calls(self):
        told = ask(("create", 8, 1, 0), ("add_portions", *[300] * 8), *[("filling_set_count",)] * 58)
        self.assertEqual(told, [[0], [0]] + [[255]] * 58)

    def test_60_calls_of_each_kind(self):
        for asked in NEEDING_A_WEIGHER:
            with self.subTest(asked=asked):
                self.assertEqual(ask(*[asked] * 60), [NO_WEIGHER] * 60)
                before = (("create", 8, 1, 0), ("add_portions", *range(271, 301)))
                told = ask(*before, *[asked] * 58)
                self.assertTrue(all(answer != NO_WEIGHER for answer in told))

    def test_60_calls_that_fill_bags(self):
        calls = [("create", 8, 20, 3)]
        for more in range(19):
            calls += [("add_portions", *range(1, 25)), ("preview_run", 12), ("run", 12)]
        told = ask(*calls, ("totals",), ("get_queue",))
        self.assertEqual(len(told), 60)
        self.assertEqual(told[2:58:3], told[3:58:3])
        bag_count, received, packed, in_hoppers, in_queue = told[-2]
        self.assertEqual(bag_count, sum(bags for bags, excess in told[3:58:3]))
        self.assertEqual(packed, sum(20 * bags + excess for bags, excess in told[3:58:3]))
        self.assertEqual(received, packed + in_hoppers + in_queue)

    def test_60_creates(self):
        told = ask(*[("create", 1 + number % 8, 999, 9) for number in range(59)], ("get_hoppers",))
        self.assertEqual(told, [[0]] * 59 + [[3, 0, 0, 0, 0, 0, 0]])


class NothingIsKept(unittest.TestCase):

    def test_the_list_handed_in_is_not_changed(self):
        calls = request(("create", 2, 100, 0), *NEEDING_A_WEIGHER, ("create", 9, 9, 9))
        copy = list(calls)
        answers(calls)
        self.assertEqual(calls, copy)

    def test_a_request_begins_without_a_weigher(self):
        ask(("create", 2, 100, 0), ("add_portion", 60))
        self.assertEqual(ask(("get_hoppers",)), [NO_WEIGHER])

    def test_the_same_request_again_is_answered_the_same(self):
        calls = request(("create", 1, 100, 2), *NEEDING_A_WEIGHER, ("add_portion", 9), ("run", 3))
        first = answers(calls)
        copy = list(first)
        first.append(5)
        self.assertEqual(answers(calls), copy)

    def test_bags_of_another_request_do_not_count(self):
        ask(*EXAMPLE)
        self.assertEqual(ask(*EXAMPLE), EXAMPLE_TOLD)
        self.assertEqual(ask(("create", 3, 100, 0), ("totals",)), [[0], [0, 0, 0, 0, 0]])

    def test_the_example_again_in_one_request(self):
        self.assertEqual(ask(*EXAMPLE * 6), EXAMPLE_TOLD * 6)

    def test_create_may_come_again(self):
        told = ask(
            ("create", 1, 100, 0), ("add_portions", 60, 45), ("create", 2, 50, 0), ("get_hoppers",),
            ("get_queue",), ("add_portions", 20, 30), ("filling_set_count",), ("create", 8, 1, 9), ("weight_of", 255),
        )
        self.assertEqual(told, [[0], [1], [0], [2, 0, 0, 0, 0], [0], [0], [1], [0], [0]])
