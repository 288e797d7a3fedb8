"""Ways to weigh a load: the lots of places that do, and how many weights must be lost until none does."""

from itertools import combinations

from lostweights.checks import check_box, check_box_loss, check_box_lost, check_number
from lostweights.losses import staying, sums


def lots_of(box, loss, load):
    """All lots of the load, ascending."""
    grown = [((), 0)]
    for place, weight in enumerate(box):
        if place not in loss:
            grown = grown + [((*lot, place), total + weight) for lot, total in grown if total + weight <= load]
    return sorted([lot for lot, total in grown if total == load])


def check_box_loss_load(box, loss, load):
    """Raise the error of the first one of the three that is wrong: a box, a loss of it, a load up to its sum."""
    check_box_loss(box, loss)
    check_number(load, 0, sum(box))


def lots(box, loss, load):
    """All lots of the load behind the loss, ascending."""
    check_box_loss_load(box, loss, load)
    return tuple(lots_of(box, loss, load))


def ways(box, loss, load):
    """How many lots of the load there are behind the loss."""
    check_box_loss_load(box, loss, load)
    return len(lots_of(box, loss, load))


def shortest_lot(box, loss, load):
    """The first lot of those with the fewest places, None without any."""
    check_box_loss_load(box, loss, load)
    return min(lots_of(box, loss, load), key=len, default=None)


def least_ways(box, lost, load):
    """The least number of ways to weigh the load, whichever so many weights are lost."""
    check_box_lost(box, lost)
    check_number(load, 0, sum(box))
    return min([len(lots_of(box, loss, load)) for loss in combinations(range(len(box)), lost)])


def breaking(box, load):
    """The first of the smallest losses that leave the load unweighed, None for load 0, which none does."""
    check_box(box)
    check_number(load, 0, sum(box))
    for lost in range(len(box) + 1):
        for loss in combinations(range(len(box)), lost):
            if load not in sums(staying(box, loss)):
                return loss
    return None


def strength(box, load):
    """The least number of weights whose loss can leave the load unweighed, None for load 0."""
    loss = breaking(box, load)
    return None if loss is None else len(loss)
