"""The best boxes: the safest of so many weights, how many boxes are safe, and the cheapest that is."""

from lostweights.boxes import safe_of
from lostweights.checks import LIGHTEST, MOST_WEIGHTS, check_number, is_box, is_integer, is_tuple, is_within
from lostweights.errors import BadPrices

MOST_PRICES = 12
HIGHEST_PRICE = 99


def safest(many, lost):
    """The safest box of so many weights."""
    weights = []
    for place in range(many):
        weights.append(1 + sum(weights[:max(0, place - lost)]))
    return tuple(weights)


def check_many_lost(many, most, lost):
    """Raise BadNumber unless a box may have so many weights, and lose so many of them."""
    check_number(many, 1, most)
    check_number(lost, 0, many)


def best_safe(many, lost):
    """The greatest load up to which any box of so many weights is safe."""
    check_many_lost(many, MOST_WEIGHTS, lost)
    return safe_of(safest(many, lost), lost)


def best_box(many, lost):
    """The safest box of so many weights."""
    check_many_lost(many, MOST_WEIGHTS, lost)
    return safest(many, lost)


def fewest_weights(lost, load):
    """The least number of weights of a box that is safe up to the load, None if ten aren't enough."""
    check_number(lost, 0, MOST_WEIGHTS)
    check_number(load, 1, 1024)
    for many in range(max(lost, 1), MOST_WEIGHTS + 1):
        if safe_of(safest(many, lost), lost) >= load:
            return many
    return None


def all_boxes(many, top):
    """All boxes of so many weights, none above top."""
    boxes = [(weight,) for weight in range(LIGHTEST, top + 1)]
    for _ in range(many - 1):
        boxes = [(*box, weight) for box in boxes for weight in range(box[-1], top + 1)]
    return boxes


def count_safe(many, lost, load, top):
    """How many boxes of so many weights, none above top, are safe up to the load."""
    check_many_lost(many, 6, lost)
    check_number(load, 0, 60)
    check_number(top, 1, 8)
    return len([box for box in all_boxes(many, top) if safe_of(box, lost) >= load])


def check_prices(prices):
    """Raise BadPrices unless a value is a tuple of prices."""
    if not is_tuple(prices, 1, MOST_PRICES):
        raise BadPrices(f"no tuple of 1 to {MOST_PRICES} prices")
    if not all([is_within(price, 0, HIGHEST_PRICE) for price in prices]):
        raise BadPrices(f"no integer from 0 to {HIGHEST_PRICE} among the prices")


def grown_offers(offer, prices, lost):
    """The offers with one weight more, that of the last place, that can still become safe up to a load."""
    price, box = offer
    least = box[-1] if box else LIGHTEST
    most = len(prices)
    # A weight above this would end the safe loads at the sum of the lightest weights, however the box goes on.
    if len(box) >= lost:
        most = min(most, sum(box[:len(box) - lost]) + 1)
    return [(price + prices[weight - 1], (*box, weight)) for weight in range(least, most + 1)]


def cheapest_by_end(offers, lost):
    """The cheapest one of the offers that can be continued in the same way."""
    kept = {}
    for price, box in offers:
        # What may be added to a box depends on its sum and its last weights alone, one more than are lost.
        end = (sum(box), box[-lost - 1:])
        if end not in kept or price < kept[end][0]:
            kept[end] = (price, box)
    return list(kept.values())


def is_enough(box, lost, load):
    """Whether ascending weights are lost ones at least and safe up to the load."""
    return len(box) >= lost and safe_of(box, lost) >= load


def cheapest(prices, lost, load):
    """The least price of a box that is safe up to the load, and such a box; None without any."""
    check_prices(prices)
    check_number(lost, 0, 4)
    check_number(load, 1, 60)
    best = None
    offers = [(0, ())]
    for _ in range(MOST_WEIGHTS):
        grown = [offer for start in offers for offer in grown_offers(start, prices, lost)]
        for price, box in grown:
            if is_enough(box, lost, load) and (best is None or price < best[0]):
                best = (price, box)
        # No price is below 0, so a box that is enough gets no cheaper by a further weight.
        offers = cheapest_by_end([offer for offer in grown if not is_enough(offer[1], lost, load)], lost)
    return best


def is_offer(prices, value):
    """Whether a value is a pair of a box that has prices and the sum of them."""
    if not is_tuple(value, 2, 2):
        return False
    price, box = value
    if not is_integer(price) or not is_box(box) or box[-1] > len(prices):
        return False
    return price == sum([prices[weight - 1] for weight in box])


def shows_cheapest(prices, lost, load, value):
    """Whether a value is what cheapest may return."""
    best = cheapest(prices, lost, load)
    if best is None:
        return value is None
    return is_offer(prices, value) and value[0] == best[0] and is_enough(value[1], lost, load)
