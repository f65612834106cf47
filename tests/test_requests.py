import unittest

from asking import CALL_NUMBERS, FULL, GREATEST, NO_WEIGHER, OUTSIDE, ask, request, split
from hopperset.weigher import answers

# Each call but create, with right numbers and with wrong ones.
NEEDING_A_WEIGHER = (
    ("add_portion", 60),
    ("add_portion", 0),
    ("add_portion", GREATEST),
    ("add_portions", 60, 45, 50),
    ("add_portions",),
    ("add_portions", 0),
    ("add_portions", *[GREATEST] * 30),
    ("set_target", 100),
    ("set_target", 0),
    ("set_target", GREATEST),
    ("set_max_age", 0),
    ("set_max_age", 10),
    ("set_max_age", GREATEST),
    ("get_hoppers",),
    ("get_queue",),
    ("due_hoppers",),
    ("weight_of", 0),
    ("weight_of", 256),
    ("weight_of", GREATEST),
    ("can_fill", 0),
    ("can_fill", 256),
    ("can_fill", GREATEST),
    ("filling_set_count",),
)


class NoWeigher(unittest.TestCase):

    def test_each_call_at_the_beginning(self):
        for asked in NEEDING_A_WEIGHER:
            with self.subTest(asked=asked):
                self.assertEqual(ask(asked), [NO_WEIGHER])

    def test_each_call_is_tried(self):
        tried = {asked[0] for asked in NEEDING_A_WEIGHER}
        self.assertEqual(tried, set(CALL_NUMBERS) - {"create"})

    def test_each_call_behind_a_failed_create(self):
        for asked in NEEDING_A_WEIGHER:
            with self.subTest(asked=asked):
                self.assertEqual(ask(("create", 9, 100, 0), asked), [OUTSIDE, NO_WEIGHER])

    def test_what_was_refused_leaves_nothing(self):
        told = ask(("add_portion", 60), ("set_target", 5), ("create", 1, 100, 0), ("get_hoppers",), ("set_target", 1))
        self.assertEqual(told, [NO_WEIGHER, NO_WEIGHER, [0], [1, 0, 0], [100]])


class Form(unittest.TestCase):

    def test_the_example_as_numbers(self):
        calls = [0, 3, 3, 100, 0, 0, 2, 3, 60, 45, 50, 0, 9, 1, 6, 0, 1, 1, 70, 0]
        self.assertEqual(answers(calls), [1, 0, 1, 0, 1, 0, 1, 1])

    def test_each_call_as_numbers(self):
        calls = []
        told = []
        for more_calls, more_told in (
            ([0, 3, 2, 50, 7, 0], [1, 0]),
            ([1, 1, 40, 0], [1, 0]),
            ([2, 3, 20, 30, 10, 0], [1, 2]),
            ([3, 1, 60, 0], [1, 50]),
            ([4, 1, 3, 0], [1, 7]),
            ([5, 0, 0], [5, 2, 40, 0, 20, 0]),
            ([6, 0, 0], [3, 2, 30, 10]),
            ([7, 0, 0], [1, 0]),
            ([8, 1, 3, 0], [1, 60]),
            ([9, 1, 3, 0], [1, 1]),
            ([10, 0, 0], [1, 1]),
            ([2, 0, 0], [1, -22]),
        ):
            calls += more_calls
            told += more_told
            self.assertEqual(answers(calls), told)

    def test_a_refusal_is_its_code_alone(self):
        self.assertEqual(answers([5, 0, 0]), [1, -11])
        self.assertEqual(answers([0, 3, 0, 1, 0, 0]), [1, -22])
        full = ask(("create", 1, 1, 0), ("add_portions", *[1] * 25), ("add_portion", 1))
        self.assertEqual(full, [[0], [24], FULL])

    def test_the_longest_request(self):
        calls = request(*[("add_portions", *[GREATEST] * 30)] * 60)
        self.assertEqual(len(calls), 1980)
        self.assertEqual(split(answers(calls), 60), [NO_WEIGHER] * 60)

    def test_60_calls(self):
        told = ask(("create", 8, 1, 0), ("add_portions", *[300] * 8), *[("filling_set_count",)] * 58)
        self.assertEqual(told, [[0], [0]] + [[255]] * 58)


class NothingIsKept(unittest.TestCase):

    def test_the_list_handed_in_is_not_changed(self):
        calls = request(("create", 2, 100, 0), *NEEDING_A_WEIGHER, ("create", 9, 9, 9))
        copy = list(calls)
        answers(calls)
        self.assertEqual(calls, copy)

    def test_a_request_begins_without_a_weigher(self):
        ask(("create", 2, 100, 0), ("add_portion", 60))
        self.assertEqual(ask(("get_hoppers",)), [NO_WEIGHER])

    def test_the_same_request_again_is_answered_the_same(self):
        calls = request(("create", 1, 100, 2), *NEEDING_A_WEIGHER)
        first = answers(calls)
        copy = list(first)
        first.append(5)
        self.assertEqual(answers(calls), copy)

    def test_create_may_come_again(self):
        told = ask(
            ("create", 1, 100, 0), ("add_portions", 60, 45), ("create", 2, 50, 0), ("get_hoppers",),
            ("get_queue",), ("add_portions", 20, 30), ("filling_set_count",), ("create", 8, 1, 9), ("weight_of", 255),
        )
        self.assertEqual(told, [[0], [1], [0], [2, 0, 0, 0, 0], [0], [0], [1], [0], [0]])
