"""Rings, feeds ahead, and the order in which rows of a home flow."""

from speaklast.asked import coming
from speaklast.cells import Grid
from speaklast.errors import InvalidNet
from speaklast.graphs import knots, reached_from
from speaklast.sieves import Sieve


def rings(net, home):
    """All sets of sites that form a ring for a home, each with its cells."""
    net.known_home(home)
    sieve = Sieve(Grid(net))
    for ring in rings_among(net, sieve, coming(net, sieve, home)):
        yield ring


def rings_among(net, sieve, brought):
    """The list of the tuples (sites, cells) of all rings; brought is what coming returned."""
    groups = cells_by_feeds(net, sieve, brought)
    found = {}
    for feeds in groups:
        arrows = [(net.line_of(feed).source, net.line_of(feed).target) for feed in feeds]
        for sites in knots(net.sites, arrows):
            places = tuple([net.sites.index(site) for site in sites])
            found.setdefault(places, []).extend(groups[feeds])
    return [(tuple([net.sites[at] for at in ring]), tuple(sorted(found[ring]))) for ring in sorted(list(found))]


def cells_by_feeds(net, sieve, brought):
    """The dict from the tuples of feeds that may be part of a ring to the cells that come through just these."""
    feeds = [line.name for line in net.lines() if not line.own and not goes_stamped(net, line)]
    found = {}
    for at, cell in enumerate(sieve.in_order):
        with_cell = tuple([feed for feed in feeds if (brought[feed] >> at) & 1])
        found.setdefault(with_cell, []).append(cell)
    return found


def goes_stamped(net, line):
    """Whether the source or the target of a line is stamped."""
    return line.stamped or net.known_site(line.source).policy == "stamped"


def ahead(net, site):
    """The tuple of the feeds from which a way leads to a site, in order."""
    net.known_site(site)
    arrows = [(line.source, line.target) for line in net.lines()]
    return tuple([line.name for line in net.lines()
                  if line.target == site or site in reached_from(line.target, arrows)])


def flow(net, home):
    """The tuple of the sites that rows of a home can reach, each behind the sources of all that comes to it."""
    net.known_home(home)
    brought = coming(net, Sieve(Grid(net)), home)
    arrows = [(line.source, line.target) for line in net.lines() if brought[line.name]]
    for site in net.sites:
        if site in reached_from(site, arrows):
            raise InvalidNet("loop", site)
    targets = [target for source, target in arrows]
    return in_flow([site for site in net.sites if site == home or site in targets], arrows)


def in_flow(sites, arrows):
    """The tuple of the sites, in each place the earliest one whose sources all stand ahead."""
    placed = []
    while len(placed) < len(sites):
        ready = [site for site in sites if site not in placed
                 and all([source in placed for source, target in arrows if target == site])]
        placed.append(ready[0])
    return tuple(placed)
