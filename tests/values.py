"""Values of every kind that the package must take where any value may stand."""

from speaklast.filters import Filter
from speaklast.ranges import Ranges


def nested(depth):
    thing = (1, "one")
    for _ in range(depth):
        thing = [thing]
    return thing


def odd_values():
    """Values that are neither an integer, a Ranges nor a Filter."""
    return [None, True, False, "", "1", "a b\n~", (), (1,), ((1, 1),), [], [1], [(1, 1)], {}, {1: 1},
            {"k": [None, True]}, nested(18), "x" * 4000, [0] * 1999]


def any_values():
    """odd_values, integers of all sizes, and objects of the package."""
    return odd_values() + [0, 1, -1, 10 ** 59, -(10 ** 59), Ranges.of(1), Ranges.empty(), Ranges.full(),
                           Filter.always(), Filter.within("k", Ranges.of(1))]
