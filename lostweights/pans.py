"""Both pans: what is weighed if weights may also lie beside the load."""

from itertools import combinations

from lostweights.checks import (
    GREATEST_LOAD, check_box_loss, check_box_lost, check_most, check_number, is_loss, is_tuple,
)

MOST_WEIGHTS_ON_PANS = 7


def spreads_of(box, loss):
    """For each number by which one pan's weights can exceed the other's, below 0 too, a spread."""
    found = {0: ((), ())}
    for place, weight in enumerate(box):
        if place not in loss:
            for total, (first, second) in list(found.items()):
                found.setdefault(total + weight, ((*first, place), second))
                found.setdefault(total - weight, (first, (*second, place)))
    return found


def both_loads(box, loss):
    """All loads that have a spread, ascending."""
    check_box_loss(box, loss)
    check_most(box, MOST_WEIGHTS_ON_PANS)
    return tuple(sorted([total for total in spreads_of(box, loss) if total >= 0]))


def spread(box, loss, load):
    """A spread of the load, None without any."""
    check_box_loss(box, loss)
    check_number(load, 0, GREATEST_LOAD)
    check_most(box, MOST_WEIGHTS_ON_PANS)
    return spreads_of(box, loss).get(load)


def is_lot(box, barred, value):
    """Whether a value is an ascending tuple of places of the box, none of them barred."""
    return is_loss(box, value) and not any([place in barred for place in value])


def weight_of(box, lot):
    """The sum of the weights of places."""
    return sum([box[place] for place in lot])


def is_spread(box, loss, load, value):
    """Whether a value is a spread of the load."""
    if not is_tuple(value, 2, 2):
        return False
    first, second = value
    if not is_lot(box, loss, first) or not is_lot(box, (*loss, *first), second):
        return False
    return weight_of(box, first) - weight_of(box, second) == load


def shows_spread(box, loss, load, value):
    """Whether a value is what spread may return."""
    if spread(box, loss, load) is None:
        return value is None
    return is_spread(box, loss, load, value)


def both_reach(box, loss):
    """The greatest load up to which each load has a spread."""
    found = spreads_of(box, loss)
    load = 0
    while load + 1 in found:
        load += 1
    return load


def both_safe(box, lost):
    """The greatest load up to which each load has a spread, whichever so many weights are lost."""
    check_box_lost(box, lost)
    check_most(box, MOST_WEIGHTS_ON_PANS)
    return min([both_reach(box, loss) for loss in combinations(range(len(box)), lost)])
