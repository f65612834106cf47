"""Answers the calls of one request on a weigher.

Each call has a function of its own. It is handed the call's numbers and gives
back the list of what is answered: a refusal is a list of its code alone.
"""

from hopperset.codes import NO_WEIGHER, OUTSIDE_LIMITS, QUEUE_FULL
from hopperset.limits import MOST_QUEUED
from hopperset.limits import hopper_count_is_right, max_age_is_right, target_is_right
from hopperset.limits import weight_is_right, weights_are_right
from hopperset.state import Weigher


class Request:
    """What the calls of one request work on. At its beginning there is no weigher."""

    def __init__(self):
        self.weigher = None


def create(request, numbers):
    hopper_count = numbers[0]
    target = numbers[1]
    max_age = numbers[2]
    if not (hopper_count_is_right(hopper_count) and target_is_right(target) and max_age_is_right(max_age)):
        return [OUTSIDE_LIMITS]
    request.weigher = Weigher(hopper_count, target, max_age)
    return [0]


def add_portion(weigher, numbers):
    weight = numbers[0]
    if not weight_is_right(weight):
        return [OUTSIDE_LIMITS]
    # Unlike add_portions, this refuses a full queue even if a hopper is empty.
    if len(weigher.queue) >= MOST_QUEUED:
        return [QUEUE_FULL]
    weigher.arrive(weight)
    return [len(weigher.queue)]


def add_portions(weigher, weights):
    if not weights_are_right(weights):
        return [OUTSIDE_LIMITS]
    # Asked ahead of the first arrival, so that a refusal changes nothing.
    if weigher.queue_length_after(len(weights)) > MOST_QUEUED:
        return [QUEUE_FULL]
    for weight in weights:
        weigher.arrive(weight)
    return [len(weigher.queue)]


def set_target(weigher, numbers):
    target = numbers[0]
    if not target_is_right(target):
        return [OUTSIDE_LIMITS]
    old_target = weigher.target
    weigher.target = target
    return [old_target]


def set_max_age(weigher, numbers):
    max_age = numbers[0]
    if not max_age_is_right(max_age):
        return [OUTSIDE_LIMITS]
    old_max_age = weigher.max_age
    weigher.max_age = max_age
    return [old_max_age]


def get_hoppers(weigher, numbers):
    told = [len(weigher.hoppers)]
    for hopper in weigher.hoppers:
        told.append(hopper.weight)
        told.append(hopper.age)
    return told


def get_queue(weigher, numbers):
    return [len(weigher.queue)] + weigher.queue


def due_hoppers(weigher, numbers):
    due = weigher.due_numbers()
    return [len(due)] + due


def weight_of(weigher, numbers):
    mask = numbers[0]
    if mask >= weigher.set_limit():
        return [OUTSIDE_LIMITS]
    return [weigher.weight_in(mask)]


def can_fill(weigher, numbers):
    mask = numbers[0]
    if mask >= weigher.set_limit():
        return [OUTSIDE_LIMITS]
    return [1 if weigher.fills(mask) else 0]


def filling_set_count(weigher, numbers):
    return [len([mask for mask in range(weigher.set_limit()) if weigher.fills(mask)])]


CREATE = 0

# The calls that need a weigher, by their numbers.
OPERATIONS = {
    1: add_portion,
    2: add_portions,
    3: set_target,
    4: set_max_age,
    5: get_hoppers,
    6: get_queue,
    7: due_hoppers,
    8: weight_of,
    9: can_fill,
    10: filling_set_count,
}


def answer_call(request, call_number, numbers):
    """Do one call and give back what is answered."""
    if call_number == CREATE:
        return create(request, numbers)
    if request.weigher is None:
        return [NO_WEIGHER]
    return OPERATIONS[call_number](request.weigher, numbers)


def answers(calls):
    """Do the calls of one request, in order, and give back all that is answered."""
    request = Request()
    told = []
    at = 0
    while at < len(calls):
        first = at + 2
        behind = first + calls[at + 1]
        told_of_call = answer_call(request, calls[at], calls[first:behind])
        told.append(len(told_of_call))
        told.extend(told_of_call)
        # No call has a list, so just the 0 that says so follows its numbers.
        at = behind + 1
    return told
