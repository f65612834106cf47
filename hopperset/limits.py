"""The limits of the arguments, of the queue and of the reachable weights."""

MOST_HOPPERS = 8
MOST_TARGET = 999
MOST_AGE = 9
MOST_WEIGHT = 300
MOST_BAGS = 12
MOST_QUEUED = 24

# A weight is told as reachable up to so far above the target.
MOST_EXCESS_TOLD = 19


def hopper_count_is_right(hopper_count):
    return 1 <= hopper_count <= MOST_HOPPERS


def target_is_right(target):
    return 1 <= target <= MOST_TARGET


def max_age_is_right(max_age):
    return 0 <= max_age <= MOST_AGE


def weight_is_right(weight):
    return 1 <= weight <= MOST_WEIGHT


def weights_are_right(weights):
    return len(weights) > 0 and all([weight_is_right(weight) for weight in weights])


def bags_are_right(bags):
    return 1 <= bags <= MOST_BAGS
