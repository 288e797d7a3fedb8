"""Day by day: the chance that a load is still safe behind so many days, and the mean number of days that it is."""

from lostweights.chances import chance_of, check_box_chances, fraction, reach_with
from lostweights.checks import GREATEST_LOAD, check_most, check_number

MOST_DAYS = 30
MOST_WEIGHTS_FOR_MEAN = 6


def power(base, exponent):
    """The base to the exponent, an integer from 0 on; 1 for the exponent 0."""
    product = 1
    for _ in range(exponent):
        product = product * base
    return product


def lost_after(chance, days):
    """The chance that a weight is lost behind so many days."""
    top, bottom = chance
    whole = power(bottom, days)
    return whole - power(bottom - top, days), whole


def chance_after(box, chances, days, load):
    """The chance that behind so many days those left weigh all loads from 0 to the load."""
    check_box_chances(box, chances)
    check_number(days, 0, MOST_DAYS)
    check_number(load, 0, GREATEST_LOAD)
    return chance_of(box, [lost_after(chance, days) for chance in chances], load)


def grown_terms(terms, weight, chance):
    """The terms of the reaches with one weight more, none of those before it being heavier."""
    lost, bottom = chance
    grown = {}
    for (reach, base), number in terms.items():
        staying = fraction(base[0] * (bottom - lost), base[1] * bottom)
        # The weight stays with the chance q, q being a power of its daily chance, and is lost with 1 - q.
        changes = (
            ((reach_with(reach, weight), staying), number),
            ((reach, base), number),
            ((reach, staying), -number),
        )
        for end, change in changes:
            grown[end] = grown.get(end, 0) + change
    return grown


def day_terms(box, chances, load):
    """The chance that the load is safe behind any number of days, as a sum: numbers by their bases.

    A base is a fraction; the sum of each number times its base to the days is the chance.
    """
    terms = {(0, (1, 1)): 1}
    for weight, chance in zip(box, chances):
        terms = grown_terms(terms, weight, chance)
    numbers = {}
    for (reach, base), number in terms.items():
        if reach >= load:
            numbers[base] = numbers.get(base, 0) + number
    return numbers


def sum_over_days(numbers):
    """The sum of the chances for the days from 1 on; no number but 0 has the base 1."""
    top, bottom = 0, 1
    for (base_top, base_bottom), number in numbers.items():
        if number != 0:
            # The powers of a base below 1, from the first one on, are base / (1 - base) together.
            rest = base_bottom - base_top
            top, bottom = fraction(top * rest + number * base_top * bottom, bottom * rest)
    return top, bottom


def mean_days(box, chances, load):
    """The mean number of days behind which those left weigh all loads up to the load, None if it is without end."""
    check_box_chances(box, chances)
    check_number(load, 0, GREATEST_LOAD)
    check_most(box, MOST_WEIGHTS_FOR_MEAN)
    numbers = day_terms(box, chances, load)
    # What the base 1 has is the chance that the load stays safe for ever.
    if numbers.get((1, 1), 0) != 0:
        return None
    return sum_over_days(numbers)
