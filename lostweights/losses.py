"""Losses: what is left, the loads that it weighs, how it weighs one, and the least load that a loss can spoil."""

from itertools import combinations

from lostweights.boxes import gap_of, safe
from lostweights.checks import check_box_loss, check_box_lost, check_number, is_integer, is_loss, is_tuple


def staying(box, loss):
    """The weights of the box whose places are not lost."""
    return tuple([weight for place, weight in enumerate(box) if place not in loss])


def sums(weights):
    """All sums of some of the weights, as the keys of a dict."""
    found = {0: True}
    for weight in weights:
        for total in list(found):
            found[total + weight] = True
    return found


def left(box, loss):
    """The weights left."""
    check_box_loss(box, loss)
    return staying(box, loss)


def loads(box, loss):
    """All loads that are sums of some of the weights left, ascending."""
    check_box_loss(box, loss)
    return tuple(sorted(sums(staying(box, loss))))


def sure_loads(box, lost):
    """All loads that are weighed whichever so many weights are lost, ascending."""
    check_box_lost(box, lost)
    sure = sorted(sums(box))
    for loss in combinations(range(len(box)), lost):
        weighed = sums(staying(box, loss))
        sure = [load for load in sure if load in weighed]
    return tuple(sure)


def taken_for(weights, load):
    """Those of ascending weights that weigh the load, the heaviest one that still fits first; None if they don't."""
    taken = []
    rest = load
    # One pass is enough: a weight that is too heavy for the rest never fits again, the rest only shrinks.
    for weight in reversed(weights):
        if weight <= rest:
            taken.append(weight)
            rest -= weight
    return None if rest > 0 else tuple(taken)


def weigh(box, loss, load):
    """The weights left that weigh the load, the heaviest one that still fits first; None if these don't do."""
    check_box_loss(box, loss)
    check_number(load, 0, sum(box))
    return taken_for(staying(box, loss), load)


def flaw(box, lost):
    """A loss of so many places, and the least load that any such loss leaves unweighed, this one doing so."""
    check_box_lost(box, lost)
    # Without these places each weight left is among the lightest ones, which weigh one less than the load
    # together, or is heavier than the load.
    first = gap_of(box, lost)
    return tuple(range(first, first + lost)), sum(box[:first]) + 1


def shows_flaw(box, lost, value):
    """Whether a value is what flaw may return."""
    least = safe(box, lost) + 1
    if not is_tuple(value, 2, 2):
        return False
    loss, load = value
    if not is_loss(box, loss) or len(loss) != lost or not is_integer(load) or load != least:
        return False
    return load not in sums(staying(box, loss))
