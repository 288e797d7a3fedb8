"""Values of every kind that may be passed, and a way to look at the error that a call raises."""

from lostweights.errors import WeightError

ANY_VALUES = (
    -1, 0, 1, 5, 10 ** 30, -10 ** 30, "", "1", "box", True, False, None,
    (), (1,), (1, "a"), ("1",), (True,), (None,), ((1,),), ([1],), ({},), (0,), (-1,), (2, 1),
    [], [1], [1, 1], [(1,)], {}, {0: 1}, {"1": (1,)}, {(1,): None},
)

NO_INTEGERS = tuple(value for value in ANY_VALUES if isinstance(value, bool) or not isinstance(value, int))
NO_TUPLES = tuple(value for value in ANY_VALUES if not isinstance(value, tuple))


def error_of(function, *args):
    """What the call raises: the error's class and its fields, or None where it raises none of the package's."""
    try:
        function(*args)
    except WeightError as error:
        fields = {name: getattr(error, name) for name in ("index", "line", "most") if hasattr(error, name)}
        return (type(error), *fields.values())
    return None
