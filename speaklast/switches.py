"""Switches: two nets that differ in filters alone, seen over the cells that both cut."""

from speaklast.asked import coming
from speaklast.cells import Grid
from speaklast.rules import part_of
from speaklast.sieves import Sieve


class Cuts:
    """The table and the trees that a grid of more than one net is cut by."""

    def __init__(self, table, tree_list):
        self.table = table
        self.tree_list = tree_list

    def trees(self):
        """The list of the trees of all filters, regions and boxes."""
        return self.tree_list


class Switch:
    """What comes through the feeds in the first net and in the second one, whatever the home."""

    def __init__(self, net, other, boxes):
        self.wiring = net
        # Raises TooMany if both nets and the boxes cut too many cells.
        self.grid = Grid(Cuts(net.table, net.trees() + other.trees() + [box.tree for box in boxes]))
        self.sieve = Sieve(self.grid)
        self.key_spots = [net.table.columns.index(column) for column in net.table.key]
        self.made_cells = {site: 0 for site in net.sites}
        for home in net.homes:
            self.made_cells[home] = self.sieve.passing(net.known_home(home).home.tree)
        self.before = brought_by_all(net, self.sieve)
        self.behind = brought_by_all(other, self.sieve)

    def wanted_cells(self, site, brought):
        """The set of the cells that a site wants, if the feeds bring these cells."""
        bits = self.made_cells[site]
        for feed in self.wiring.feeds_into(site):
            bits = bits | brought[feed]
        return bits

    def key_cells(self, bits):
        """The dict of the key cells of a set of cells, ascending."""
        return {part_of(cell, self.key_spots): True for cell in self.sieve.cells_in(bits)}

    def box_keys(self, box):
        """The dict of the key cells that pass a box."""
        return self.key_cells(self.sieve.passing(box.tree))

    def source_keys(self, feed):
        """The dict of the key cells of what the source of a feed can send on it, whatever the filter."""
        line = self.wiring.line_of(feed)
        if line.own:
            return self.key_cells(self.made_cells[line.source])
        return self.key_cells(self.wanted_cells(line.source, self.before))

    def changes_at(self, site):
        """The list of the tuples (key cell, feeds before, feeds behind), ascending, for all key cells that come."""
        feeds = self.wiring.feeds_into(site)
        before = {feed: self.key_cells(self.before[feed]) for feed in feeds}
        behind = {feed: self.key_cells(self.behind[feed]) for feed in feeds}
        found = {}
        for feed in feeds:
            for key_cell in list(before[feed]) + list(behind[feed]):
                found[key_cell] = True
        return [(key_cell, feeds_with(before, key_cell), feeds_with(behind, key_cell))
                for key_cell in sorted(list(found))]


def feeds_with(key_cells, key_cell):
    """The tuple of the feeds that bring a key cell; key_cells tells all of them, feed by feed."""
    return tuple([feed for feed in key_cells if key_cell in key_cells[feed]])


def brought_by_all(net, sieve):
    """The dict from the feeds to the sets of the cells that they bring, of all homes."""
    found = {feed: 0 for feed in net.feeds}
    for home in net.homes:
        brought = coming(net, sieve, home)
        for feed in net.feeds:
            found[feed] = found[feed] | brought[feed]
    return found


def are_akin(net, other):
    """Whether two nets have the same table, sites and feeds, but for filters."""
    return net.table == other.table and without_filters(net) == without_filters(other)


def without_filters(net):
    """All that is told of the sites and feeds of a net, in order, but for the filters of the feeds."""
    sites = [(site.name, site.columns, site.policy, site.home) for site in net.site_list]
    return [sites, [(feed.name, feed.source, feed.target, feed.own) for feed in net.feed_list]]
