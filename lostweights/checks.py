"""What is an integer, a box, a loss; and the errors for values that are none."""

from lostweights.errors import BadBox, BadLoss, BadNumber, TooMany

MOST_WEIGHTS = 10
LIGHTEST = 1
HEAVIEST = 1000
GREATEST_LOAD = 10000


def is_integer(value):
    """Whether a value is an integer; True and False are none here."""
    return isinstance(value, int) and not isinstance(value, bool)


def is_within(value, low, high):
    """Whether a value is an integer from low to high."""
    return is_integer(value) and low <= value <= high


def is_tuple(value, fewest, most):
    """Whether a value is a tuple of so many things."""
    return isinstance(value, tuple) and fewest <= len(value) <= most


def wrong_place(things):
    """The first place whose thing is no weight or is less than the one before it, None without any."""
    least = LIGHTEST
    for place, thing in enumerate(things):
        if not is_within(thing, least, HEAVIEST):
            return place
        least = thing
    return None


def is_box(value):
    """Whether a value is a box."""
    return is_tuple(value, 1, MOST_WEIGHTS) and wrong_place(value) is None


def is_loss(box, value):
    """Whether a value is an ascending tuple of places of the box."""
    if not isinstance(value, tuple):
        return False
    least = 0
    for place in value:
        if not is_within(place, least, len(box) - 1):
            return False
        least = place + 1
    return True


def check_number(value, low, high):
    """Raise BadNumber unless a value is an integer from low to high."""
    if not is_within(value, low, high):
        raise BadNumber(f"no integer from {low} to {high}")


def check_box(box):
    """Raise BadBox unless a value is a box."""
    if not is_tuple(box, 1, MOST_WEIGHTS):
        raise BadBox(None)
    place = wrong_place(box)
    if place is not None:
        raise BadBox(place)


def check_box_lost(box, lost):
    """Raise the error of the first one of the two that is wrong: a box, so many of its weights lost."""
    check_box(box)
    check_number(lost, 0, len(box))


def check_box_loss(box, loss):
    """Raise the error of the first one of the two that is wrong: a box, a loss of it."""
    check_box(box)
    if not is_loss(box, loss):
        raise BadLoss("no ascending tuple of places of the box")


def check_most(box, most):
    """Raise TooMany if a box has more weights than so many."""
    if len(box) > most:
        raise TooMany(most)
