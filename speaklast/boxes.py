"""Which steps on the filter of a feed are allowed."""

from speaklast.errors import InvalidStep
from speaklast.filters import Filter


def check_step(net, feed):
    """Raises UnknownName for no feed, InvalidStep for one on which no steps are allowed."""
    target = net.known_site(net.known_feed(feed).target)
    table = net.table
    if target.policy != "put" or target.home is not None or table.unique or not table.reuse:
        raise InvalidStep("feed")


def check_box(net, feed, box):
    """Raises what check_step raises, then InvalidStep for any value that is no box."""
    check_step(net, feed)
    if not (isinstance(box, Filter) and all([column in net.table.key for column in box.columns])):
        raise InvalidStep("box")
