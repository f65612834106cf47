"""Selects sets of hoppers by their weights. A set is a mask, a set that isn't there None."""

from hopperset.limits import MOST_EXCESS_TOLD


def sums_by_mask(values):
    """Give the sum of each set's values, at the index that is its mask."""
    sums = [0]
    for value in values:
        sums = sums + [total + value for total in sums]
    return sums


def weights_by_mask(weigher):
    return sums_by_mask([hopper.weight for hopper in weigher.hoppers])


def size_of(mask):
    """Tell how many hoppers a set has."""
    return len([number for number in range(mask.bit_length()) if (mask >> number) & 1])


def mask_of(numbers):
    """Give the set of these hoppers."""
    return sum([1 << number for number in numbers])


def filling_masks(weigher, target):
    """Give the sets that can fill a bag with this target, the smallest mask first."""
    due = mask_of(weigher.due_numbers())
    weights = weights_by_mask(weigher)
    return [mask for mask, weight in enumerate(weights) if weight >= target and (mask & due) == due]


def best_mask(weigher, target):
    """Give the best set with this target, or None."""
    weights = weights_by_mask(weigher)
    sizes = sums_by_mask([1 for hopper in weigher.hoppers])
    masks = filling_masks(weigher, target)
    return min(masks, key=lambda mask: (weights[mask], sizes[mask], mask), default=None)


def numbers_by_weight(weigher):
    """Give the numbers of all hoppers, the heaviest first."""
    hoppers = weigher.hoppers
    return sorted(range(len(hoppers)), key=lambda number: (-hoppers[number].weight, number))


def greedy_mask(weigher):
    """Give the greedy set, or None."""
    chosen = weigher.due_numbers()
    weight = weigher.weight_in(mask_of(chosen))
    for number in numbers_by_weight(weigher):
        if weight < weigher.target and number not in chosen:
            chosen.append(number)
            weight += weigher.hoppers[number].weight
    return mask_of(chosen) if weight >= weigher.target else None


def reachable(weigher):
    """Give the different weights of sets just above the target, by the smallest mask of each."""
    found = []
    for weight in weights_by_mask(weigher):
        if weigher.target <= weight <= weigher.target + MOST_EXCESS_TOLD and weight not in found:
            found.append(weight)
    return found
