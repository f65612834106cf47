"""Long requests, each answer of which is compared with a second, slower writing of the document.

The requests are made by counting on from a seed, so that they are the same each time.
"""

import itertools
import unittest

from asking import CALL_NUMBERS, GREATEST, STATE_CALLS, ask

WITHOUT_NUMBERS = (
    "get_hoppers", "get_queue", "due_hoppers", "filling_set_count", "best_set", "greedy_set", "fill_best_bag",
    "reachable_weights", "totals",
)


class Numbers:
    """Numbers that look mixed and are the same for each seed."""

    def __init__(self, seed):
        self.state = seed * 2654435761 % 2 ** 31

    def below(self, limit):
        self.state = (self.state * 1103515245 + 12345) % 2 ** 31
        return (self.state >> 12) % limit

    def one_of(self, choices):
        return choices[self.below(len(choices))]


class Refusal(Exception):
    """A call is refused."""


def refuse_if(refused, code):
    if refused:
        raise Refusal(code)


class PlainWeigher:
    """The document's words, with hoppers as a list of [weight, age] and sets as tuples of numbers."""

    def __init__(self, hopper_count, target, max_age):
        self.hoppers = [[0, 0] for number in range(hopper_count)]
        self.target = target
        self.max_age = max_age
        self.queue = []
        self.received = self.packed = self.bag_count = 0

    def mask(self, chosen):
        return sum(2 ** number for number in chosen)

    def chosen(self, mask):
        refuse_if(mask > 2 ** len(self.hoppers) - 1, -22)
        return tuple(number for number in range(len(self.hoppers)) if mask // 2 ** number % 2 == 1)

    def weight(self, chosen):
        return sum(self.hoppers[number][0] for number in chosen)

    def all_sets(self):
        numbers = range(len(self.hoppers))
        return [chosen for count in range(len(numbers) + 1) for chosen in itertools.combinations(numbers, count)]

    def due(self):
        return [n for n, (weight, age) in enumerate(self.hoppers) if 0 < self.max_age <= age and weight > 0]

    def filling(self, target):
        due = set(self.due())
        return [chosen for chosen in self.all_sets() if due.issubset(chosen) and self.weight(chosen) >= target]

    def best(self, target):
        filling = self.filling(target)
        refuse_if(not filling, -33)
        return sorted(filling, key=lambda chosen: (self.weight(chosen), len(chosen), self.mask(chosen)))[0]

    def told(self, chosen, target):
        return [self.mask(chosen), self.weight(chosen) - target, len(chosen)]

    def arrive(self, weights):
        refuse_if(not weights or min(weights) < 1 or max(weights) > 300, -22)
        empty = sum(weight == 0 for weight, age in self.hoppers)
        refuse_if(len(self.queue) + len(weights) - min(empty, len(weights)) > 24, -28)
        self.received += sum(weights)
        waiting = list(weights)
        for hopper in self.hoppers:
            if waiting and hopper[0] == 0:
                hopper[:] = [waiting.pop(0), 0]
        self.queue += waiting
        return [len(self.queue)]

    def fill(self, chosen):
        self.packed += self.weight(chosen)
        self.bag_count += 1
        for hopper in self.hoppers:
            hopper[1] += hopper[0] > 0
        for number in sorted(chosen):
            self.hoppers[number] = [self.queue.pop(0) if self.queue else 0, 0]

    def add_portion(self, weight):
        refuse_if(weight < 1 or weight > 300, -22)
        refuse_if(len(self.queue) == 24, -28)
        return self.arrive([weight])

    def add_portions(self, *weights):
        return self.arrive(weights)

    def set_target(self, target):
        refuse_if(target < 1 or target > 999, -22)
        old, self.target = self.target, target
        return [old]

    def set_max_age(self, max_age):
        refuse_if(max_age > 9, -22)
        old, self.max_age = self.max_age, max_age
        return [old]

    def get_hoppers(self):
        return [len(self.hoppers), *itertools.chain(*self.hoppers)]

    def get_queue(self):
        return [len(self.queue), *self.queue]

    def due_hoppers(self):
        return [len(self.due()), *self.due()]

    def weight_of(self, mask):
        return [self.weight(self.chosen(mask))]

    def can_fill(self, mask):
        return [int(self.chosen(mask) in self.filling(self.target))]

    def filling_set_count(self):
        return [len(self.filling(self.target))]

    def best_set(self):
        return self.told(self.best(self.target), self.target)

    def greedy_set(self):
        chosen = self.due()
        others = [number for number in range(len(self.hoppers)) if number not in chosen]
        while others and self.weight(chosen) < self.target:
            heaviest = max(self.hoppers[number][0] for number in others)
            number = [number for number in others if self.hoppers[number][0] == heaviest][0]
            others.remove(number)
            chosen.append(number)
        refuse_if(self.weight(chosen) < self.target, -33)
        return self.told(chosen, self.target)

    def fill_bag(self, mask):
        chosen = self.chosen(mask)
        refuse_if(chosen not in self.filling(self.target), -33)
        excess = self.weight(chosen) - self.target
        self.fill(chosen)
        return [excess]

    def fill_best_bag(self):
        told = self.best_set()
        self.fill(self.chosen(told[0]))
        return told

    def run(self, bags):
        refuse_if(bags < 1 or bags > 12, -22)
        excesses = []
        try:
            for bag in range(bags):
                excesses.append(self.fill_best_bag()[1])
        except Refusal:
            pass
        return [len(excesses), sum(excesses)]

    def best_set_for_target(self, target):
        refuse_if(target < 1 or target > 999, -22)
        return self.told(self.best(target), target)

    def preview_run(self, bags):
        kept = [list(hopper) for hopper in self.hoppers], list(self.queue), self.packed, self.bag_count
        told = self.run(bags)
        self.hoppers, self.queue, self.packed, self.bag_count = kept
        return told

    def reachable_weights(self):
        by_mask = sorted((self.mask(chosen), self.weight(chosen)) for chosen in self.all_sets())
        weights = [weight for mask, weight in by_mask if weight in range(self.target, self.target + 20)]
        return [len(set(weights)), *dict.fromkeys(weights)]

    def totals(self):
        in_hoppers = sum(weight for weight, age in self.hoppers)
        return [self.bag_count, self.received, self.packed, in_hoppers, sum(self.queue)]

    def discard(self, number):
        refuse_if(number >= len(self.hoppers), -2)
        weight = self.hoppers[number][0]
        refuse_if(weight == 0, -6)
        self.hoppers[number] = [0, 0]
        self.received -= weight
        return [weight]


def plain_answers(calls):
    """What the second writing answers to each call."""
    weigher = None
    told = []
    for name, *numbers in calls:
        try:
            if name == "create":
                hopper_count, target, max_age = numbers
                refuse_if(not (1 <= hopper_count <= 8 and 1 <= target <= 999 and max_age <= 9), -22)
                weigher = PlainWeigher(*numbers)
                told.append([0])
            else:
                refuse_if(weigher is None, -11)
                told.append(getattr(weigher, name)(*numbers))
        except Refusal as refusal:
            told.append([refusal.args[0]])
    return told


def mixed_call(numbers, hopper_count):
    """One call, most of the time with right numbers and sometimes with wrong ones."""
    name = numbers.one_of(sorted(CALL_NUMBERS) + ["add_portions", "fill_best_bag", "fill_bag", "discard"])
    wrong = numbers.below(12) == 0
    if name in WITHOUT_NUMBERS:
        return (name,)
    if name == "create":
        if numbers.below(4) > 0:
            return ("get_hoppers",)
        return (name, 1 + numbers.below(9), 1 + numbers.below(300), numbers.below(11))
    if name == "add_portions":
        most = numbers.one_of((3, 30))
        return (name, *[numbers.below(301 if wrong else 300) + (not wrong) for more in range(numbers.below(most + 1))])
    if wrong:
        return (name, numbers.one_of((0, 10, 13, 301, 1000, 2 ** hopper_count, GREATEST)))
    limits = {
        "add_portion": (1, 300), "set_target": (1, 400), "set_max_age": (0, 10), "best_set_for_target": (1, 500),
        "run": (1, 12), "preview_run": (1, 12), "discard": (0, hopper_count),
    }
    first, count = limits.get(name, (0, 2 ** hopper_count))
    return (name, first + numbers.below(count))


def mixed_request(seed):
    """One request of 60 calls."""
    numbers = Numbers(seed)
    hopper_count = 1 + numbers.below(8)
    target = 1 + numbers.below(numbers.one_of((20, 200, 500)))
    calls = [("create", hopper_count, target, numbers.below(5))]
    # Few different weights make for ties.
    if numbers.below(2):
        unit = numbers.one_of((1, 10, 25))
        calls += [("add_portions", *[unit * (1 + numbers.below(4)) for more in range(20)])]
    while len(calls) < 60:
        calls.append(mixed_call(numbers, hopper_count))
    return calls


SEEDS = range(120)


class LongRequests(unittest.TestCase):

    def test_each_answer(self):
        for seed in SEEDS:
            calls = mixed_request(seed)
            with self.subTest(seed=seed):
                for call, told, plain in zip(calls, ask(*calls), plain_answers(calls), strict=True):
                    self.assertEqual((call, told), (call, plain))

    def test_all_calls_and_refusals_come_up(self):
        met = set()
        for seed in SEEDS:
            calls = mixed_request(seed)
            met.update((name, min(told[0], 0)) for (name, *numbers), told in zip(calls, ask(*calls)))
        expected = {(name, 0) for name in CALL_NUMBERS}
        expected |= {(name, -22) for name in ("create", "add_portion", "add_portions", "set_target", "set_max_age")}
        expected |= {(name, -22) for name in ("weight_of", "can_fill", "fill_bag", "run", "preview_run")}
        expected |= {(name, -33) for name in ("best_set", "greedy_set", "fill_bag", "fill_best_bag")}
        expected |= {("best_set_for_target", -22), ("best_set_for_target", -33)}
        expected |= {("add_portion", -28), ("add_portions", -28), ("discard", -2), ("discard", -6)}
        self.assertEqual(met, expected)


def state_met(seed):
    """The calls that lead to one state, and what the document's points need to know of it."""
    calls = mixed_request(seed)[:58 - len(STATE_CALLS)]
    told = ask(*calls, *STATE_CALLS)[len(calls):]
    hoppers, due, totals, target, max_age = told[0], told[2], told[4], told[5][0], told[6][0]
    return calls, hoppers[1::2], hoppers[2::2], due[1:], totals, target, max_age


def weight_in(weights, mask):
    return sum(weight for number, weight in enumerate(weights) if mask >> number & 1)


class Requirements(unittest.TestCase):
    """The points 1 to 6 of the document, on states that many calls have led to."""

    def test_1_the_best_set_is_optimal(self):
        for seed in SEEDS:
            calls, weights, ages, due, totals, target, max_age = state_met(seed)
            best = ask(*calls, ("best_set",))[-1]
            masks = range(2 ** len(weights))
            due_mask = sum(2 ** number for number in due)
            filling = [m for m in masks if weight_in(weights, m) >= target and m & due_mask == due_mask]
            if best == [-33]:
                self.assertEqual(filling, [])
                continue
            mask, excess, count = best
            self.assertIn(mask, filling)
            self.assertEqual((excess, count), (weight_in(weights, mask) - target, bin(mask).count("1")))
            for other in filling:
                self.assertGreaterEqual(weight_in(weights, other), target + excess)
                if weight_in(weights, other) == target + excess:
                    self.assertGreaterEqual((bin(other).count("1"), other), (count, mask))

    def test_2_weight_balance(self):
        for seed in SEEDS:
            calls = mixed_request(seed)
            for behind in range(1, 59, 7):
                told = ask(*calls[:behind], ("get_hoppers",), ("get_queue",), ("totals",))[-3:]
                hoppers, queue, (bag_count, received, packed, in_hoppers, in_queue) = told
                self.assertEqual(received, packed + in_hoppers + in_queue)
                self.assertEqual((in_hoppers, in_queue), (sum(hoppers[1::2]), sum(queue[1:])))

    def test_3_the_greedy_selection_succeeds_whenever_a_bag_can_be_filled(self):
        for seed in SEEDS:
            calls = state_met(seed)[0]
            greedy, count = ask(*calls, ("greedy_set",), ("filling_set_count",))[-2:]
            self.assertEqual(greedy != [-33], count != [0])
            if greedy != [-33]:
                told = ask(*calls, ("can_fill", greedy[0]), ("fill_bag", greedy[0]))
                self.assertEqual(told[-2:], [[1], [greedy[1]]])

    def test_4_no_portion_gets_older_than_max_age(self):
        aged = 0
        for seed in SEEDS:
            calls, weights, ages, due, totals, target, max_age = state_met(seed)
            if max_age == 0 or max(ages) > max_age:
                continue
            # A set that lacks a due hopper is refused, so each is also tried with these added.
            due_mask = sum(2 ** number for number in due)
            masks = [mask for mask in range(2 ** len(weights)) if weight_in(weights, mask) >= target][:6]
            masks += [mask | due_mask for mask in masks]
            for bag in [("fill_bag", mask) for mask in masks] + [("fill_best_bag",), ("run", 12)]:
                hoppers = ask(*calls, bag, ("get_hoppers",))[-1]
                self.assertLessEqual(max(hoppers[2::2]), max_age)
                aged += max(hoppers[2::2]) == max_age
        # The limit itself is to be met, else nothing was tried here.
        self.assertGreater(aged, 10)

    def test_5_some_set_fills_just_when_all_hoppers_weigh_the_target(self):
        for seed in SEEDS:
            calls, weights, ages, due, totals, target, max_age = state_met(seed)
            for asked in {target, max(1, min(999, sum(weights))), max(1, min(999, sum(weights) + 1))}:
                told = ask(*calls, ("set_target", asked), ("filling_set_count",), ("best_set",))[-2:]
                self.assertEqual(told[0] != [0], sum(weights) >= asked)
                self.assertEqual(told[1] != [-33], sum(weights) >= asked)

    def test_6_each_bag_of_a_run_weighs_the_target(self):
        for seed in SEEDS:
            calls, weights, ages, due, totals, target, max_age = state_met(seed)
            packed = totals[2]
            for bags in range(1, 13):
                (filled, excess), after = ask(*calls, ("run", bags), ("totals",))[-2:]
                self.assertLessEqual(filled, bags)
                self.assertEqual(after[:3], [totals[0] + filled, totals[1], totals[2] + filled * target + excess])
                if filled < bags:
                    self.assertEqual(after[2], packed)
                    break
                self.assertGreaterEqual(after[2] - packed, target)
                packed = after[2]


if __name__ == "__main__":
    unittest.main()
