"""Answers the calls of one request on a weigher.

Each call has a function of its own. It is handed the call's numbers and gives
back the list of what is answered: a refusal is a list of its code alone.
"""

from hopperset.codes import HOPPER_EMPTY, NO_FILLING_SET, NO_HOPPER, NO_WEIGHER, OUTSIDE_LIMITS, QUEUE_FULL
from hopperset.limits import MOST_QUEUED
from hopperset.limits import bags_are_right, hopper_count_is_right, max_age_is_right, target_is_right
from hopperset.limits import weight_is_right, weights_are_right
from hopperset.selection import best_mask, filling_masks, greedy_mask, reachable, size_of
from hopperset.state import Weigher


class Request:
    """What the calls of one request work on. At its beginning there is no weigher."""

    def __init__(self):
        self.weigher = None


def create(request, numbers):
    hopper_count = numbers[0]
    target = numbers[1]
    max_age = numbers[2]
    if not (hopper_count_is_right(hopper_count) and target_is_right(target) and max_age_is_right(max_age)):
        return [OUTSIDE_LIMITS]
    request.weigher = Weigher(hopper_count, target, max_age)
    return [0]


def add_portion(weigher, numbers):
    weight = numbers[0]
    if not weight_is_right(weight):
        return [OUTSIDE_LIMITS]
    # Unlike add_portions, this refuses a full queue even if a hopper is empty.
    if len(weigher.queue) >= MOST_QUEUED:
        return [QUEUE_FULL]
    weigher.arrive(weight)
    return [len(weigher.queue)]


def add_portions(weigher, weights):
    if not weights_are_right(weights):
        return [OUTSIDE_LIMITS]
    # Asked ahead of the first arrival, so that a refusal changes nothing.
    if weigher.queue_length_after(len(weights)) > MOST_QUEUED:
        return [QUEUE_FULL]
    for weight in weights:
        weigher.arrive(weight)
    return [len(weigher.queue)]


def set_target(weigher, numbers):
    target = numbers[0]
    if not target_is_right(target):
        return [OUTSIDE_LIMITS]
    old_target = weigher.target
    weigher.target = target
    return [old_target]


def set_max_age(weigher, numbers):
    max_age = numbers[0]
    if not max_age_is_right(max_age):
        return [OUTSIDE_LIMITS]
    old_max_age = weigher.max_age
    weigher.max_age = max_age
    return [old_max_age]


def get_hoppers(weigher, numbers):
    told = [len(weigher.hoppers)]
    for hopper in weigher.hoppers:
        told.append(hopper.weight)
        told.append(hopper.age)
    return told


def get_queue(weigher, numbers):
    return [len(weigher.queue)] + weigher.queue


def due_hoppers(weigher, numbers):
    due = weigher.due_numbers()
    return [len(due)] + due


def weight_of(weigher, numbers):
    mask = numbers[0]
    if mask >= weigher.set_limit():
        return [OUTSIDE_LIMITS]
    return [weigher.weight_in(mask)]


def can_fill(weigher, numbers):
    mask = numbers[0]
    if mask >= weigher.set_limit():
        return [OUTSIDE_LIMITS]
    return [1 if mask in filling_masks(weigher, weigher.target) else 0]


def filling_set_count(weigher, numbers):
    return [len(filling_masks(weigher, weigher.target))]


def told_of_set(weigher, mask, target):
    """Tell of a selected set, or refuse if there is none."""
    if mask is None:
        return [NO_FILLING_SET]
    return [mask, weigher.weight_in(mask) - target, size_of(mask)]


def best_set(weigher, numbers):
    return told_of_set(weigher, best_mask(weigher, weigher.target), weigher.target)


def greedy_set(weigher, numbers):
    return told_of_set(weigher, greedy_mask(weigher), weigher.target)


def fill_bag(weigher, numbers):
    mask = numbers[0]
    if mask >= weigher.set_limit():
        return [OUTSIDE_LIMITS]
    if mask not in filling_masks(weigher, weigher.target):
        return [NO_FILLING_SET]
    excess = weigher.weight_in(mask) - weigher.target
    weigher.fill_from(mask)
    return [excess]


def fill_best_bag(weigher, numbers):
    mask = best_mask(weigher, weigher.target)
    # Told ahead of the filling, which changes what the set weighs.
    told = told_of_set(weigher, mask, weigher.target)
    if mask is not None:
        weigher.fill_from(mask)
    return told


def run(weigher, numbers):
    bags = numbers[0]
    if not bags_are_right(bags):
        return [OUTSIDE_LIMITS]
    bag_count = 0
    total_excess = 0
    while bag_count < bags:
        mask = best_mask(weigher, weigher.target)
        if mask is None:
            break
        total_excess += weigher.weight_in(mask) - weigher.target
        weigher.fill_from(mask)
        bag_count += 1
    return [bag_count, total_excess]


def best_set_for_target(weigher, numbers):
    target = numbers[0]
    if not target_is_right(target):
        return [OUTSIDE_LIMITS]
    return told_of_set(weigher, best_mask(weigher, target), target)


def preview_run(weigher, numbers):
    return run(weigher.duplicate(), numbers)


def reachable_weights(weigher, numbers):
    weights = reachable(weigher)
    return [len(weights)] + weights


def totals(weigher, numbers):
    in_hoppers = sum([hopper.weight for hopper in weigher.hoppers])
    return [weigher.bag_count, weigher.received, weigher.packed, in_hoppers, sum(weigher.queue)]


def discard(weigher, numbers):
    number = numbers[0]
    if number >= len(weigher.hoppers):
        return [NO_HOPPER]
    hopper = weigher.hoppers[number]
    if hopper.is_empty():
        return [HOPPER_EMPTY]
    weight = hopper.weight
    weigher.throw_out(hopper)
    return [weight]


CREATE = 0

# The calls that need a weigher, by their numbers.
OPERATIONS = {
    1: add_portion,
    2: add_portions,
    3: set_target,
    4: set_max_age,
    5: get_hoppers,
    6: get_queue,
    7: due_hoppers,
    8: weight_of,
    9: can_fill,
    10: filling_set_count,
    11: best_set,
    12: greedy_set,
    13: fill_bag,
    14: fill_best_bag,
    15: run,
    16: best_set_for_target,
    17: preview_run,
    18: reachable_weights,
    19: totals,
    20: discard,
}


def answer_call(request, call_number, numbers):
    """Do one call and give back what is answered."""
    if call_number == CREATE:
        return create(request, numbers)
    if request.weigher is None:
        return [NO_WEIGHER]
    return OPERATIONS[call_number](request.weigher, numbers)


def answers(calls):
    """Do the calls of one request, in order, and give back all that is answered."""
    request = Request()
    told = []
    at = 0
    while at < len(calls):
        first = at + 2
        behind = first + calls[at + 1]
        told_of_call = answer_call(request, calls[at], calls[first:behind])
        told.append(len(told_of_call))
        told.extend(told_of_call)
        # No call has a list, so just the 0 that says so follows its numbers.
        at = behind + 1
    return told
