"""Which steps on the filter of a feed are allowed."""

from speaklast.errors import InvalidStep
from speaklast.filters import Filter


def allows_steps(net, feed):
    """Whether steps on a feed of the net are allowed."""
    target = net.known_site(net.known_feed(feed).target)
    table = net.table
    return target.policy == "put" and target.home is None and not table.unique and table.reuse


def is_box(net, thing):
    """Whether any value is a filter over key columns alone."""
    return isinstance(thing, Filter) and all([column in net.table.key for column in thing.columns])


def check_step(net, feed):
    """Raises UnknownName for no feed, InvalidStep for one on which no steps are allowed."""
    if not allows_steps(net, feed):
        raise InvalidStep("feed")


def check_box(net, feed, box):
    """Raises what check_step raises, then InvalidStep for any value that is no box."""
    check_step(net, feed)
    if not is_box(net, box):
        raise InvalidStep("box")
