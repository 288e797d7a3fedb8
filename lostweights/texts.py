"""Texts of boxes, losses and orders, what such texts tell, and the tale of a bench that does orders."""

from lostweights.benches import Bench
from lostweights.checks import GREATEST_LOAD, check_box, check_box_loss, is_box, is_loss, is_tuple, is_within
from lostweights.errors import BadLine, BadOrders, BadStep

MOST_ORDERS = 200


def is_order(box, value):
    """Whether a value is an order for the box."""
    if not is_tuple(value, 2, 2):
        return False
    word, number = value
    if word == "weigh":
        return is_within(number, 0, GREATEST_LOAD)
    return word in ("lose", "find") and is_within(number, 0, len(box) - 1)


def check_box_orders(box, orders):
    """Raise the error of the first one of the two that is wrong: a box, orders of it."""
    check_box(box)
    if not is_tuple(orders, 0, MOST_ORDERS):
        raise BadOrders(None)
    for index, order in enumerate(orders):
        if not is_order(box, order):
            raise BadOrders(index)


def told(word, numbers):
    """A line without its end: the word and the numbers."""
    return " ".join([word] + [str(number) for number in numbers])


def order_told(order):
    """The line of an order, without its end."""
    word, number = order
    return told(word, (number,))


def text_of(lines):
    """The text of lines, each ended by a newline."""
    return "".join([line + "\n" for line in lines])


def box_text(box):
    """The text of a box."""
    check_box(box)
    return text_of([told("box", box)])


def loss_text(box, loss):
    """The text of a loss."""
    check_box_loss(box, loss)
    return text_of([told("lost", loss)])


def orders_text(box, orders):
    """The text of a box and of orders for it."""
    check_box_orders(box, orders)
    return text_of([told("box", box)] + [order_told(order) for order in orders])


def lines_of(text):
    """The lines of a text, without their ends; BadLine unless there is one and each is ended."""
    if not isinstance(text, str) or text == "":
        raise BadLine(0)
    lines = text.split("\n")
    if lines[-1] != "":
        raise BadLine(len(lines) - 1)
    return lines[:-1]


def is_number(word):
    """Whether a word tells a number, without a sign and needless zeros, that may stand in a text."""
    # A word of too many digits is sorted out here: Python does not turn a very long one into an integer.
    if not word.isascii() or not word.isdigit() or len(word) > len(str(GREATEST_LOAD)):
        return False
    return word == "0" or word[0] != "0"


def numbers_behind(word, line):
    """The numbers of a line that begins with the word, None for a line that has no such form."""
    first, *parts = line.split(" ")
    if first != word or not all([is_number(part) for part in parts]):
        return None
    return tuple([int(part) for part in parts])


def order_of(line):
    """The word and the number that a line tells, None for a line that has no such form."""
    word, _, number = line.partition(" ")
    return (word, int(number)) if is_number(number) else None


def box_of(lines):
    """The box that the first one of lines tells."""
    box = numbers_behind("box", lines[0])
    if not is_box(box):
        raise BadLine(0)
    return box


def check_no_second(lines):
    """Raise BadLine if there is a second line."""
    if len(lines) > 1:
        raise BadLine(1)


def read_box(text):
    """The box that a text tells."""
    lines = lines_of(text)
    box = box_of(lines)
    check_no_second(lines)
    return box


def read_loss(box, text):
    """The loss of the box that a text tells."""
    check_box(box)
    lines = lines_of(text)
    loss = numbers_behind("lost", lines[0])
    if not is_loss(box, loss):
        raise BadLine(0)
    check_no_second(lines)
    return loss


def read_orders(text):
    """The box and the orders for it that a text tells."""
    lines = lines_of(text)
    box = box_of(lines)
    orders = []
    for line in lines[1:]:
        order = order_of(line)
        if len(orders) == MOST_ORDERS or not is_order(box, order):
            raise BadLine(len(orders) + 1)
        orders.append(order)
    return box, tuple(orders)


def step(bench, word, place):
    """Let the bench do an order to lose or find."""
    if word == "lose":
        bench.lose(place)
    else:
        bench.find(place)


def step_answer(bench, word, place):
    """What the bench says to an order to lose or find."""
    try:
        step(bench, word, place)
    except BadStep:
        return "not done"
    return f"reach {bench.reach}"


def weights_told(weights):
    """How the weights that weigh a load are told; none do for load 0 alone."""
    if weights == ():
        return "nothing"
    return " + ".join([str(weight) for weight in weights])


def weigh_answer(bench, load):
    """What the bench says to an order to weigh."""
    try:
        return weights_told(bench.weigh(load))
    except BadStep:
        return "not weighed"


def answer_to(bench, order):
    """What the bench says to an order."""
    word, number = order
    if word == "weigh":
        return weigh_answer(bench, number)
    return step_answer(bench, word, number)


def tale(box, orders):
    """How a bench of the box does the orders, a line for each."""
    check_box_orders(box, orders)
    bench = Bench(box)
    lines = []
    for order in orders:
        lines.append(f"{order_told(order)}: {answer_to(bench, order)}")
    return text_of(lines)
