"""Chances by which each weight gets lost: the chance that a load is safe, and the mean of the safe loads."""

from math import gcd

from lostweights.checks import GREATEST_LOAD, check_box, check_number, is_tuple, is_within
from lostweights.errors import BadChances

GREATEST_BOTTOM = 100


def is_chance(value):
    """Whether a value is a pair (top, bottom) of a chance from 0 to 1."""
    if not is_tuple(value, 2, 2):
        return False
    top, bottom = value
    return is_within(bottom, 1, GREATEST_BOTTOM) and is_within(top, 0, bottom)


def check_box_chances(box, chances):
    """Raise the error of the first one of the two that is wrong: a box, chances of it."""
    check_box(box)
    if not is_tuple(chances, len(box), len(box)):
        raise BadChances("no tuple of one chance for each place")
    if not all([is_chance(chance) for chance in chances]):
        raise BadChances(f"no pair of a top and a bottom up to {GREATEST_BOTTOM} among the chances")


def reach_with(reach, weight):
    """The reach with one weight more, none of those before it being heavier."""
    # Behind a weight that leaves a gap none comes that fills it, so such a one never adds to a reach.
    return reach + weight if weight <= reach + 1 else reach


def grown_shares(shares, weight, chance):
    """The shares of the reaches with one weight more, none of those before it being heavier."""
    top, bottom = chance
    grown = {}
    for reach, share in shares.items():
        further = reach_with(reach, weight)
        grown[further] = grown.get(further, 0) + share * (bottom - top)
        grown[reach] = grown.get(reach, 0) + share * top
    return grown


def reach_shares(box, chances):
    """For each load up to which those left may weigh all, its share; the sum of the shares stands for the chance 1."""
    shares = {0: 1}
    for weight, chance in zip(box, chances):
        shares = grown_shares(shares, weight, chance)
    return shares


def fraction(top, bottom):
    """A fraction in lowest terms."""
    common = gcd(top, bottom)
    return top // common, bottom // common


def chance_of(box, chances, load):
    """The chance that those left weigh all loads from 0 to the load, by pairs (top, bottom) without a limit."""
    shares = reach_shares(box, chances)
    return fraction(sum([share for reach, share in shares.items() if reach >= load]), sum(shares.values()))


def chance_safe(box, chances, load):
    """The chance that those left weigh all loads from 0 to the load."""
    check_box_chances(box, chances)
    check_number(load, 0, GREATEST_LOAD)
    return chance_of(box, chances, load)


def mean_safe(box, chances):
    """The mean of the greatest load up to which those left weigh all."""
    check_box_chances(box, chances)
    shares = reach_shares(box, chances)
    return fraction(sum([reach * share for reach, share in shares.items()]), sum(shares.values()))
