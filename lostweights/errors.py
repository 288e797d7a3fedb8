"""The errors of the package."""


class WeightError(ValueError):
    """The base class of all errors of the package."""


class BadBox(WeightError):
    """A value that is no box: index is None, or the place of the first thing that can't stand there."""

    def __init__(self, index):
        super().__init__(f"no box, index {index}")
        self.index = index


class BadLoss(WeightError):
    """A value that is no loss of the box."""


class BadNumber(WeightError):
    """A value that is no integer within its limits."""


class BadPrices(WeightError):
    """A value that is no tuple of prices."""


class BadChances(WeightError):
    """A value that is no tuple of chances of the box."""


class BadStep(WeightError):
    """A step that can't be done as things stand."""


class BadOrders(WeightError):
    """A value that is no tuple of orders: index is None, or that of the first thing that is no order."""

    def __init__(self, index):
        super().__init__(f"no orders, index {index}")
        self.index = index


class BadLine(WeightError):
    """A text with a line that has no such form or can't stand there."""

    def __init__(self, line):
        super().__init__(f"bad line {line}")
        self.line = line


class TooMany(WeightError):
    """A box of more weights than the function takes."""

    def __init__(self, most):
        super().__init__(f"more than {most} weights")
        self.most = most
