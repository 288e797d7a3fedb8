"""A merchant's bench: a box whose weights get lost and are found again, one by one."""

from lostweights.boxes import safe_of
from lostweights.checks import GREATEST_LOAD, check_box, check_number
from lostweights.errors import BadStep
from lostweights.losses import staying, taken_for


class Bench:
    """A box, and which of its weights are lost; none is at first."""

    def __init__(self, box):
        check_box(box)
        self._box = box
        self._loss = ()

    @property
    def lost(self):
        """The lost places, ascending."""
        return self._loss

    @property
    def left(self):
        """The weights left."""
        return staying(self._box, self._loss)

    @property
    def reach(self):
        """The greatest load up to which those left weigh all."""
        return safe_of(staying(self._box, self._loss), 0)

    def lose(self, place):
        """Let the weight of a place get lost."""
        check_number(place, 0, len(self._box) - 1)
        if place in self._loss:
            raise BadStep(f"the weight of place {place} is lost already")
        self._loss = tuple(sorted([*self._loss, place]))

    def find(self, place):
        """Let the lost weight of a place be found again."""
        check_number(place, 0, len(self._box) - 1)
        if place not in self._loss:
            raise BadStep(f"the weight of place {place} is not lost")
        self._loss = tuple([other for other in self._loss if other != place])

    def weigh(self, load):
        """The weights left that weigh the load, the heaviest one that still fits first."""
        check_number(load, 0, GREATEST_LOAD)
        weights = taken_for(self.left, load)
        if weights is None:
            raise BadStep(f"the weights left don't weigh {load}")
        return weights

    def least_unweighed(self):
        """The least load that those left don't weigh."""
        return self.reach + 1
