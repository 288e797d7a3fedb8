"""Weights found again: which lost ones are needed, and behind which losses the least is safe."""

from itertools import combinations

from lostweights.boxes import safe, safe_of
from lostweights.checks import GREATEST_LOAD, check_box_loss, check_number
from lostweights.losses import staying


def reach_behind(box, loss):
    """The greatest load up to which those left weigh all."""
    return safe_of(staying(box, loss), 0)


def reach_found(box, loss, lot):
    """The greatest load up to which those left weigh all, a lot of the lost ones being found again."""
    return reach_behind(box, [place for place in loss if place not in lot])


def finds(box, loss, load):
    """The smallest lots of lost places that, found again, make the load safe, ascending; () if not even all do."""
    check_box_loss(box, loss)
    check_number(load, 0, GREATEST_LOAD)
    places = list(loss)
    for many in range(len(places) + 1):
        enough = [lot for lot in combinations(places, many) if reach_found(box, loss, lot) >= load]
        if enough:
            return tuple(enough)
    return ()


def fewest_finds(box, loss, load):
    """The least number of lost weights that, found again, make the load safe, None if not even all do."""
    lots = finds(box, loss, load)
    return len(lots[0]) if lots else None


def worst_losses(box, lost):
    """The losses of so many weights behind which no more is safe than whichever so many are lost, ascending."""
    least = safe(box, lost)
    return tuple([loss for loss in combinations(range(len(box)), lost) if reach_behind(box, loss) == least])
