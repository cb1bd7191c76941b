"""Nets: a table, sites and feeds, in the form in which they can run."""

from speaklast.errors import InvalidFeed, TooMany, UnknownName
from speaklast.feeds import feed_with_filter
from speaklast.forms import check_form, homes_of
from speaklast.lines import Line
from speaklast.sites import Site, copy_of_site


class Net:
    """A table, 1 to 8 sites and at most 14 feeds; it never changes."""

    MOST_SITES = 8
    MOST_FEEDS = 14
    MOST_HOMES = 3

    def __init__(self, table, *things):
        sites = [copy_of_site(thing) for thing in things if isinstance(thing, Site)]
        feeds = [feed_with_filter(thing, thing.where) for thing in things if not isinstance(thing, Site)]
        if len(sites) > Net.MOST_SITES:
            raise TooMany(Net.MOST_SITES)
        if len(feeds) > Net.MOST_FEEDS:
            raise TooMany(Net.MOST_FEEDS)
        self.table = table
        self.site_list = sites
        self.feed_list = feeds
        check_form(self)
        self.sites = tuple([site.name for site in sites])
        self.feeds = tuple([feed.name for feed in feeds])
        self.homes = tuple([site.name for site in homes_of(self)])
        self.site_table = {site.name: site for site in sites}
        self.feed_table = {feed.name: feed for feed in feeds}
        self.line_table = lines_of(self)
        self.out_table = {site: [line for line in self.lines() if line.source == site] for site in self.sites}

    @classmethod
    def of(cls, table, things):
        """The net of these things, a list or a tuple."""
        return Net(table, *things)

    def known_site(self, name):
        """The net's own site of this name, which is not to be changed."""
        if not (isinstance(name, str) and name in self.site_table):
            raise UnknownName(name)
        return self.site_table[name]

    def known_feed(self, name):
        """The net's own feed of this name."""
        if not (isinstance(name, str) and name in self.feed_table):
            raise UnknownName(name)
        return self.feed_table[name]

    def known_home(self, name):
        """The net's own site of this name, if it is a home."""
        if not (isinstance(name, str) and name in self.homes):
            raise UnknownName(name)
        return self.site_table[name]

    def line_of(self, feed):
        """The line of a feed."""
        if not (isinstance(feed, str) and feed in self.line_table):
            raise UnknownName(feed)
        return self.line_table[feed]

    def lines(self):
        """The list of the lines of all feeds, in order."""
        return [self.line_table[feed] for feed in self.feeds]

    def feeds_into(self, site):
        """The tuple of the names of the feeds into a site, in order."""
        return tuple([line.name for line in self.lines() if line.target == site])

    def lines_out_of(self, site):
        """The list of the lines of the feeds out of a site, in order; it is not to be changed."""
        return self.out_table[site]

    def trees(self):
        """The list of the trees of all filters and regions."""
        return [feed.where.tree for feed in self.feed_list] + [site.home.tree for site in homes_of(self)]

    def site(self, name):
        """A copy of a site."""
        return copy_of_site(self.known_site(name))

    def feed(self, name):
        """A copy of a feed."""
        known = self.known_feed(name)
        return feed_with_filter(known, known.where)

    def into(self, name):
        """The names of the feeds into a site, in order."""
        self.known_site(name)
        for feed in self.feed_list:
            if feed.target == name:
                yield feed.name

    def out_of(self, name):
        """The names of the feeds out of a site, in order."""
        self.known_site(name)
        for feed in self.feed_list:
            if feed.source == name:
                yield feed.name

    def with_policy(self, site, word):
        """The net in which a site has this policy."""
        changed = self.site(site)
        changed.change_policy(word)
        sites = [changed if kept.name == site else kept for kept in self.site_list]
        return Net.of(self.table, sites + self.feed_list)

    def with_filter(self, feed, where):
        """The net in which a feed has this filter."""
        changed = feed_with_filter(self.known_feed(feed), where)
        feeds = [changed if kept.name == feed else kept for kept in self.feed_list]
        return Net.of(self.table, self.site_list + feeds)

    def with_feed(self, feed):
        """The net with one more feed, the last one."""
        return Net.of(self.table, self.site_list + self.feed_list + [feed])

    def without(self, feed):
        """The net without a feed."""
        self.known_feed(feed)
        feeds = [kept for kept in self.feed_list if kept.name != feed]
        return Net.of(self.table, self.site_list + feeds)

    def joined(self, one, other):
        """The net in which one feed sends what two of them sent."""
        first = self.known_feed(one)
        second = self.known_feed(other)
        if one == other or ends_of(first) != ends_of(second):
            raise InvalidFeed("joined")
        return self.with_filter(one, first.where | second.where).without(other)

    def __contains__(self, name):
        return isinstance(name, str) and (name in self.site_table or name in self.feed_table)

    def __len__(self):
        return len(self.sites)

    def __eq__(self, other):
        return isinstance(other, Net) and self.table == other.table and told_of(self) == told_of(other)

    def __repr__(self):
        return f"Net({len(self.sites)} sites, {len(self.feeds)} feeds)"


def lines_of(net):
    """The dict from the names of the feeds to their lines."""
    return {feed.name: Line(net.table, feed, net.known_site(feed.source), net.known_site(feed.target))
            for feed in net.feed_list}


def ends_of(feed):
    """What two feeds have in common that can be joined."""
    return (feed.source, feed.target, feed.own)


def told_of(net):
    """All that is told of the sites and feeds of a net, in order."""
    sites = [(site.name, site.columns, site.policy, site.home) for site in net.site_list]
    feeds = [(feed.name, feed.source, feed.target, feed.where, feed.own) for feed in net.feed_list]
    return [sites, feeds]
