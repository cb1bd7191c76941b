"""Scenes: what comes through the feeds of a net for one home, and runs that are tried there."""

from speaklast.asked import coming
from speaklast.cells import Grid
from speaklast.rings import ahead
from speaklast.rules import Place
from speaklast.runs import Run
from speaklast.sieves import Sieve


class Scene:
    """A net, its cells, and what comes of the rows of one home."""

    def __init__(self, net, grid, sieve, home):
        self.wiring = net
        self.grid = grid
        self.sieve = sieve
        self.home = home
        self.brought = coming(net, sieve, home)
        self.spots = {cell: at for at, cell in enumerate(sieve.in_order)}

    def brings(self, speaker, cell):
        """Whether a speaker brings a cell."""
        return (self.brought[speaker] >> self.spots[cell]) & 1 == 1

    def place_at(self, site):
        """A site, and what comes to it."""
        return Place(self.wiring, self.grid, self.sieve, self.brought, self.home, site)

    def all_places(self):
        """The list of the places at all sites, in order."""
        return [self.place_at(site) for site in self.wiring.sites]


def scenes_of(net):
    """The list of the scenes of all homes, in order."""
    grid = Grid(net)
    sieve = Sieve(grid)
    return [Scene(net, grid, sieve, home) for home in net.homes]


def scene_for(net, home):
    """The scene of one home."""
    grid = Grid(net)
    return Scene(net, grid, Sieve(grid), home)


def deliver_all(run, feeds):
    """Delivers on these feeds, round by round, as long as one of them has a message that can be delivered."""
    # Without names settle would go over all feeds of the net.
    if feeds:
        for _ in run.settle(*feeds):
            pass


def run_with(scene, changes, feeds):
    """A run in which each change is made when all messages of these feeds are delivered; so they are behind it."""
    run = Run(scene.wiring)
    for word, thing in changes:
        run.make(scene.home, word, thing)
        deliver_all(run, feeds)
    return run


def ending_at(run, site):
    """What is wrong when nothing more can come to a site: a feed that waits, a wrong site; otherwise None."""
    net = run.net
    feeds = ahead(net, site)
    held_up = run.stuck
    for feed in feeds:
        if feed in held_up:
            return ("waits", feed)
    targets = [net.line_of(feed).target for feed in feeds]
    for other in net.sites:
        if (other == site or other in targets) and not run.right(other):
            return ("site", other)
    return None
