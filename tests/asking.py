"""Helps the tests to hand in calls by their names and to read what is answered."""

from hopperset.weigher import answers

CALL_NUMBERS = {
    "create": 0,
    "add_portion": 1,
    "add_portions": 2,
    "set_target": 3,
    "set_max_age": 4,
    "get_hoppers": 5,
    "get_queue": 6,
    "due_hoppers": 7,
    "weight_of": 8,
    "can_fill": 9,
    "filling_set_count": 10,
    "best_set": 11,
    "greedy_set": 12,
    "fill_bag": 13,
    "fill_best_bag": 14,
    "run": 15,
    "best_set_for_target": 16,
    "preview_run": 17,
    "reachable_weights": 18,
    "totals": 19,
    "discard": 20,
}

NO_WEIGHER = [-11]
NO_HOPPER = [-2]
OUTSIDE = [-22]
FULL = [-28]
NONE_FILLS = [-33]
EMPTY = [-6]

GREATEST = 4294967295


def call(name, *numbers):
    """One call in the form in which it is handed in."""
    return [CALL_NUMBERS[name], len(numbers), *numbers, 0]


def request(*calls):
    """Several calls, each a tuple of its name and its numbers, as one list."""
    handed_in = []
    for name, *numbers in calls:
        handed_in.extend(call(name, *numbers))
    return handed_in


def split(told, call_count):
    """Split what is answered into one list for each call."""
    if type(told) is not list or any(type(number) is not int for number in told):
        raise AssertionError(f"not a list of whole numbers: {told!r}")
    parts = []
    at = 0
    while at < len(told):
        behind = at + 1 + told[at]
        if told[at] < 1 or behind > len(told):
            raise AssertionError(f"a count is wrong at {at}: {told!r}")
        parts.append(told[at + 1:behind])
        at = behind
    if len(parts) != call_count:
        raise AssertionError(f"{len(parts)} answers to {call_count} calls: {told!r}")
    return parts


def ask(*calls):
    """Hand in one request and give back one list of answers for each call."""
    return split(answers(request(*calls)), len(calls))


def ask_last(*calls):
    """Hand in one request and give back what its last call is answered."""
    return ask(*calls)[-1]


# All that these calls can tell of the state. The last two tell the target and the age limit.
STATE_CALLS = (
    ("get_hoppers",),
    ("get_queue",),
    ("due_hoppers",),
    ("filling_set_count",),
    ("totals",),
    ("set_target", 1),
    ("set_max_age", 0),
)


def state_after(*calls):
    """What can be told of the state behind these calls."""
    return ask(*calls, *STATE_CALLS)[len(calls):]


def assert_unchanged(test, before, asked):
    """Check that a call leaves the state as it was."""
    test.assertEqual(state_after(*before, asked), state_after(*before))


def assert_refused(test, before, refused, code):
    """Check that a call is refused with this code and leaves the state as it was."""
    test.assertEqual(ask_last(*before, refused), code)
    assert_unchanged(test, before, refused)


def mask_of(numbers):
    return sum(2 ** number for number in numbers)


def laid_out(target, max_age, portions, queue=()):
    """The calls that lead to these hoppers, each a weight and an age, and to this queue.

    A hopper of weight 0 is left empty. One hopper at least must be empty or of age 0, as each
    bag empties or refills one. Until its turn comes, a hopper holds a portion of weight 1.
    """
    count = len(portions)
    weights = [1] * count
    calls = [("create", count, 1, 0), ("add_portions", *weights)]
    for age in range(max(age for weight, age in portions), -1, -1):
        turn = [number for number in range(count) if portions[number][0] > 0 and portions[number][1] == age]
        for number in turn:
            weights[number] = portions[number][0]
        # A bag is to be filled for each step of age, so a later hopper stands in where none has its turn.
        later = [n for n in range(count) if portions[n][0] == 0 or portions[n][1] < age]
        emptied = turn or later[:1]
        calls.append(("fill_bag", mask_of(emptied)))
        calls.append(("add_portions", *[weights[number] for number in emptied]))
    if queue:
        calls.append(("add_portions", *queue))
    calls.extend(("discard", number) for number in range(count) if portions[number][0] == 0)
    return (*calls, ("set_target", target), ("set_max_age", max_age))
