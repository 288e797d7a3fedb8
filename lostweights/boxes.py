"""Boxes: up to which load a box is safe, whichever so many of its weights are lost."""

from lostweights.checks import GREATEST_LOAD, HEAVIEST, LIGHTEST, check_box, check_box_lost, check_number


def gap_of(weights, lost):
    """The number of the lightest weights that weigh up to the safe load together.

    Takes any ascending weights, lost ones at least: best_added asks for one weight more than a box may have.
    """
    total = 0
    for many in range(len(weights) - lost):
        if weights[many + lost] > total + 1:
            return many
        total += weights[many]
    return len(weights) - lost


def safe_of(weights, lost):
    """The greatest load up to which ascending weights, lost ones at least, are safe."""
    return sum(weights[:gap_of(weights, lost)])


def safe(box, lost):
    """The greatest load up to which all loads are weighed, whichever so many weights are lost."""
    check_box_lost(box, lost)
    return safe_of(box, lost)


def gap(box, lost):
    """The least number of the lightest weights whose sum is the safe load."""
    check_box_lost(box, lost)
    return gap_of(box, lost)


def edge(box):
    """The safe loads for 0, 1 and so on lost weights, up to all."""
    check_box(box)
    return tuple([safe_of(box, lost) for lost in range(len(box) + 1)])


def most_lost(box, load):
    """The greatest number of lost weights by which the box is safe up to the load, None without any."""
    check_box(box)
    check_number(load, 0, GREATEST_LOAD)
    for lost in reversed(range(len(box) + 1)):
        if safe_of(box, lost) >= load:
            return lost
    return None


def without(box, place):
    """The weights of the box but for that of one place."""
    return box[:place] + box[place + 1:]


def spare(box, lost):
    """The places each of whose weights can be left out alone, the box being as safe as before."""
    before = safe(box, lost)
    if len(box) == max(lost, 1):
        return ()
    return tuple([place for place in range(len(box)) if safe_of(without(box, place), lost) == before])


def best_added(box, lost):
    """The least weight that makes the box as safe as one more weight can, and the safe load with it."""
    check_box_lost(box, lost)
    best_weight, best_load = LIGHTEST, -1
    for weight in range(LIGHTEST, HEAVIEST + 1):
        load = safe_of(sorted([*box, weight]), lost)
        if load > best_load:
            best_weight, best_load = weight, load
    return best_weight, best_load
