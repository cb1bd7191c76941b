"""Feeds: what sends the changes of one site to another one."""

from speaklast.errors import InvalidFeed
from speaklast.filters import Filter
from speaklast.kinds import is_name


class Feed:
    """A name, the names of a source and a target, a filter, and whether only what is made there is sent."""

    def __init__(self, name, source, target, *, where=None, own=False):
        if not is_name(name):
            raise InvalidFeed("name")
        if not is_name(source):
            raise InvalidFeed("source")
        if not is_name(target):
            raise InvalidFeed("target")
        if not (where is None or isinstance(where, Filter)):
            raise InvalidFeed("where")
        if not isinstance(own, bool):
            raise InvalidFeed("own")
        self.name = name
        self.source = source
        self.target = target
        self.where = Filter.always() if where is None else where
        self.own = own


def feed_with_filter(feed, where):
    """A feed of its own with the same parts and this filter."""
    return Feed(feed.name, feed.source, feed.target, where=where, own=feed.own)
