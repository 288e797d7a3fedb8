"""Plain enumeration: every loss and every sum, slow and simple, to check the package against."""

from fractions import Fraction
from functools import lru_cache
from itertools import combinations, combinations_with_replacement, product


@lru_cache(maxsize=None)
def all_sums(weights):
    return frozenset(sum(some) for many in range(len(weights) + 1) for some in combinations(weights, many))


def rest_of(box, loss):
    return tuple(weight for place, weight in enumerate(box) if place not in loss)


def all_losses(box, lost):
    return list(combinations(range(len(box)), lost))


def every_loss(box):
    return [loss for lost in range(len(box) + 1) for loss in all_losses(box, lost)]


def sums_of_all_losses(box, lost):
    return [all_sums(rest) for rest in {rest_of(box, loss) for loss in all_losses(box, lost)}]


@lru_cache(maxsize=None)
def plain_safe(box, lost):
    held = sums_of_all_losses(box, lost)
    load = 0
    while all(load + 1 in sums for sums in held):
        load += 1
    return load


@lru_cache(maxsize=None)
def plain_reach(weights):
    """The greatest load up to which some of the weights weigh each load."""
    held = all_sums(weights)
    return next(load for load in range(sum(weights) + 1) if load + 1 not in held)


def plain_lots(box, loss, load):
    """All tuples of places that are not lost, ascending, whose weights sum up to the load."""
    places = [place for place in range(len(box)) if place not in loss]
    some = [lot for many in range(len(places) + 1) for lot in combinations(places, many)]
    return tuple(sorted(lot for lot in some if sum(box[place] for place in lot) == load))


def boxes_of(many, top):
    return list(combinations_with_replacement(range(1, top + 1), many))


def boxes_up_to(most, top):
    return [box for many in range(1, most + 1) for box in boxes_of(many, top)]


def plain_cheapest_price(prices, lost, load, most):
    """The least price among all boxes of at most so many weights, None without any that is safe."""
    costs = [
        sum(prices[weight - 1] for weight in box)
        for box in boxes_up_to(most, len(prices))
        if len(box) >= lost and plain_safe(box, lost) >= load
    ]
    return min(costs, default=None)


def chance_of_loss(loss, chances):
    """The chance that exactly the places of the loss get lost."""
    chance = Fraction(1)
    for place, (top, bottom) in enumerate(chances):
        lost = Fraction(top, bottom)
        chance *= lost if place in loss else 1 - lost
    return chance


def plain_spreads(box, loss):
    """For each load, also below 0, all pairs of ascending tuples of places that are not lost, none in both."""
    found = {}
    for sides in product((-1, 0, 1), repeat=len(box)):
        if all(side == 0 for place, side in enumerate(sides) if place in loss):
            load = sum(side * weight for side, weight in zip(sides, box))
            pair = tuple(tuple(place for place, side in enumerate(sides) if side == wanted) for wanted in (1, -1))
            found.setdefault(load, []).append(pair)
    return found
