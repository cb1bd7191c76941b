"""Which cells come through the feeds of a net."""

from speaklast.cells import Grid
from speaklast.sieves import Sieve


def asked(net, feed, home):
    """The ascending tuple of the cells of a home that come through a feed; "" stands for its own rows."""
    if not (isinstance(feed, str) and feed == ""):
        net.known_feed(feed)
    net.known_home(home)
    sieve = Sieve(Grid(net))
    return sieve.cells_in(coming(net, sieve, home)[feed])


def speakers(net, site, home):
    """The tuple of the feeds, "" among them, that bring cells of a home to a site."""
    net.known_site(site)
    net.known_home(home)
    return voices_at(net, coming(net, Sieve(Grid(net)), home), site, home)


def voices_at(net, brought, site, home):
    """The tuple of the speakers; brought is what coming returned."""
    own = ("",) if site == home else ()
    return own + tuple([feed for feed in net.feeds_into(site) if brought[feed]])


def coming(net, sieve, home):
    """The dict from "" and all feeds to the sets of the cells of a home that they bring."""
    made = sieve.passing(net.known_home(home).home.tree)
    passing = {line.name: sieve.passing(line.tree) for line in net.lines()}
    brought = {line.name: 0 for line in net.lines()}
    brought[""] = made
    at_sites = {site: 0 for site in net.sites}
    at_sites[home] = made
    # From nothing upwards, so that cells that only go round are not taken for asked.
    grown = True
    while grown:
        grown = False
        for line in net.lines():
            told = at_sites[line.source]
            if line.own:
                told = made if line.source == home else 0
            if told & passing[line.name] != brought[line.name]:
                brought[line.name] = told & passing[line.name]
                at_sites[line.target] = at_sites[line.target] | brought[line.name]
                grown = True
    return brought
