"""The nets of the document's examples, and a few more."""

from speaklast.feeds import Feed
from speaklast.filters import Filter
from speaklast.nets import Net
from speaklast.ranges import Ranges
from speaklast.sites import Site
from speaklast.tables import Table

TABLE = Table("k", "r", key=("k",))
ALL = Filter.always()
NEVER = Filter.never()
ONES = Filter.within("r", Ranges.of(1))
LOW = Filter.within("k", Ranges.between(None, 9))
HIGH = Filter.within("k", Ranges.between(10, None))

NET = Net(TABLE, Site("h", "k", "r", home=ALL), Site("c", "k", "r"), Feed("e", "h", "c"), Feed("f", "h", "c", where=ONES))
SOLE_TABLE = Table("k", "u", key=("k",), unique=("u",))
SOLE = Net(SOLE_TABLE, Site("h", "k", "u", home=ALL), Site("c", "u", "k"), Feed("e", "h", "c"))
RING = Net(TABLE, Site("h", "k", "r", home=ALL), Site("a", "k", "r"), Feed("p", "h", "a"), Feed("q", "a", "h"))

# Two homes, two key columns, sites with their columns in other orders, and each kind of feed.
PAIRED = Table("a", "k", "r", "l", key=("l", "k"), fixed=("a",))
WIDE = Net(
    PAIRED,
    Site("low", "r", "l", "k", "a", home=LOW, policy="stamped"),
    Site("high", "k", "l", "a", "r", home=HIGH, policy="shares"),
    Site("mid", "l", "r", "k", policy="put"),
    Site("end", "k", "l", policy="skip"),
    Site("last", "r", "k", "l", policy="stamped"),
    Feed("la", "low", "mid", where=~Filter.missing("a")),
    Feed("lb", "high", "mid", own=True),
    Feed("lc", "mid", "end", where=ONES),
    Feed("ld", "low", "last"),
    Feed("le", "high", "last", own=True, where=Filter.within("a", Ranges.between(0, 5))),
    Feed("lf", "mid", "end", where=LOW),
)


def chain(size, *, back=(), policy="put", where=ALL):
    """A net of sites sa, sb, .. of which each one feeds the next one; back: pairs of indexes of more feeds."""
    names = ["s" + letter for letter in "abcdefgh"[:size]]
    sites = [Site(name, "k", "r", home=ALL if at == 0 else None, policy=policy) for at, name in enumerate(names)]
    feeds = [Feed("f" + chr(97 + at), names[at], names[at + 1], where=where) for at in range(size - 1)]
    more = [Feed("g" + chr(97 + at), names[one], names[other]) for at, (one, other) in enumerate(back)]
    return Net(TABLE, *sites, *feeds, *more)
