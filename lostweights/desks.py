"""A desk: a bench led by lines of text, whose steps can be taken back."""

from lostweights.benches import Bench
from lostweights.checks import GREATEST_LOAD
from lostweights.errors import BadLine, BadStep
from lostweights.texts import is_order, order_of, order_told, step, text_of, told, weights_told
from lostweights.ways import lots_of


class Desk:
    """A bench, and the loses and finds done there and not taken back."""

    def __init__(self, box):
        self._bench = Bench(box)
        self._box = box
        self._steps = []

    def do(self, line):
        """Do the order that a line tells, or answer what it asks."""
        if not isinstance(line, str):
            raise BadLine(0)
        if line == "reach":
            return str(self._bench.reach)
        if line == "least":
            return str(self._bench.least_unweighed())
        if line == "lost":
            return " ".join([str(place) for place in self._bench.lost]) or "none"
        order = order_of(line)
        if order is None:
            raise BadLine(0)
        word, number = order
        if word == "ways" and number <= GREATEST_LOAD:
            # Unlike ways this takes a load above the sum of the box too, which has no lots.
            return str(len(lots_of(self._box, self._bench.lost, number)))
        if not is_order(self._box, order):
            raise BadLine(0)
        return self._answer(word, number)

    def _answer(self, word, number):
        """Do an order, and answer it."""
        if word == "weigh":
            return weights_told(self._bench.weigh(number))
        step(self._bench, word, number)
        self._steps.append((word, number))
        return "done"

    def undo(self):
        """Take the last lose or find back."""
        if not self._steps:
            raise BadStep("no lose or find is left to take back")
        word, place = self._steps.pop()
        step(self._bench, "find" if word == "lose" else "lose", place)

    def text(self):
        """The text of the box and of the loses and finds done and not taken back."""
        return text_of([told("box", self._box)] + [order_told(order) for order in self._steps])
