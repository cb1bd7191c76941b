"""Values of every kind that the package must take where any value may stand."""

from speaklast.cells import Grid
from speaklast.errors import FeedError, UnknownName
from speaklast.feeds import Feed
from speaklast.filters import Filter
from speaklast.nets import Net
from speaklast.policies import holding_for
from speaklast.ranges import Ranges
from speaklast.runs import Run
from speaklast.sites import Site
from speaklast.tables import Table, Truth


def nested(depth):
    thing = (1, "one")
    for _ in range(depth):
        thing = [thing]
    return thing


def odd_values():
    """Values that are neither an integer, a Ranges nor a Filter."""
    return [None, True, False, "", "1", "a b\n~", (), (1,), ((1, 1),), [], [1], [(1, 1)], {}, {1: 1},
            {"k": [None, True]}, nested(18), "x" * 4000, [0] * 1999]


def any_values():
    """odd_values, integers of all sizes, and objects of the package."""
    return odd_values() + [0, 1, -1, 10 ** 59, -(10 ** 59), Ranges.of(1), Ranges.empty(), Ranges.full(),
                           Filter.always(), Filter.within("k", Ranges.of(1))] + objects()


def objects():
    """An object of each other class of the package, and two errors."""
    table = Table("k", "r", key=("k",))
    site = Site("zz", "k", "r", home=Filter.always())
    net = Net(table, site)
    return [table, site, net, Feed("zy", "zz", "zx"), Truth(table, Filter.always()), Run(net), Grid(net),
            holding_for(net, "zz"), FeedError("zz"), UnknownName("zz")]


def no_names():
    """Any values that name no site and no feed, names of a wrong form among them."""
    return any_values() + ["zz", "H", "h ", "toolongname", ("h",), ["h"], {"h": "h"}]
