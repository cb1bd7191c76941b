"""Points 25 to 28 and 31, asked cell by cell and set by set, as the document says them."""

import itertools

from speaklast.cells import Grid


class Words:
    """What comes through the feeds of a net for one home."""

    def __init__(self, net, home):
        self.net, self.home, self.grid = net, home, Grid(net)
        self.table = net.table
        self.all_cells = list(self.grid.cells())
        self.values = {cell: dict(zip(net.table.columns, self.grid.sample(cell))) for cell in self.all_cells}
        self.passes = {(feed, cell): net.feed(feed).where(self.values[cell]) is True
                       for feed in net.feeds for cell in self.all_cells}
        self.region = [cell for cell in self.all_cells if net.site(home).home(self.values[cell]) is True]
        self.feeds = {feed: net.feed(feed) for feed in net.feeds}
        self.sites = {site: net.site(site) for site in net.sites}
        self.asked = {feed: [] for feed in net.feeds}
        self.depth = {}
        for cell in self.region:
            self.send(cell)
        self.asked[""] = self.region

    def send(self, cell):
        """Follows one cell from the home, feed by feed."""
        brought, rounds = [], 0
        while True:
            rounds += 1
            new = [name for name, feed in self.feeds.items() if name not in brought and self.passes[name, cell] and (
                feed.source == self.home
                or not feed.own and any(self.feeds[other].target == feed.source for other in brought))]
            if not new:
                break
            for name in new:
                self.depth[name, cell] = rounds
            brought += new
        for name in brought:
            self.asked[name].append(cell)

    def speakers(self, site):
        own = [""] if site == self.home else []
        return own + [name for name, feed in self.feeds.items() if feed.target == site and self.asked[name]]

    def brings_rings(self):
        """The list of (sites, cells), set by set."""
        found = {}
        for size in range(2, len(self.sites) + 1):
            for places in itertools.combinations(range(len(self.sites)), size):
                for cell in self.all_cells:
                    if self.is_ring(places, cell):
                        found.setdefault(places, []).append(cell)
        larger = dict(found)
        for places, cells in found.items():
            kept = [cell for cell in cells if not any(
                set(places) < set(other) and cell in more for other, more in found.items())]
            larger[places] = kept
        return [(tuple(self.net.sites[at] for at in places), tuple(larger[places]))
                for places in sorted(larger) if larger[places]]

    def is_ring(self, places, cell):
        names = [self.net.sites[at] for at in places]
        if any(self.sites[name].policy == "stamped" for name in names):
            return False
        arrows = [(feed.source, feed.target) for name, feed in self.feeds.items()
                  if not feed.own and feed.source in names and feed.target in names and cell in self.asked[name]]
        return all(leads(one, other, arrows) for one, other in itertools.permutations(names, 2))

    def failings(self, falls):
        found = [("ring", self.home, names, cells[0]) for names, cells in self.brings_rings()]
        for site in self.net.sites if not found else ():
            found += self.fails_at(site, falls)
        return found

    def fails_at(self, site, falls):
        policy, speakers, found = self.sites[site].policy, self.speakers(site), []
        pairs = [(f, e) for f in speakers for e in speakers if f != e
                 and (policy != "wait" or speakers.index(f) < speakers.index(e))]
        if falls and policy == "wait":
            found += [("fall", self.home, site, f, self.asked[f][0]) for f in speakers if f]
        if policy in ("wait", "skip", "put"):
            for f, e in pairs:
                cells = [(x, z) for x in self.asked[f] for z in self.asked[e]
                         if self.fibre(x) == self.fibre(z) and (policy == "wait" or z not in self.asked[f])]
                found += [("fibre", self.home, site, f, e, *cell) for cell in cells[:1]]
        for column in [column for column in self.table.unique if column in self.sites[site].columns]:
            for f, e in pairs:
                cells = [(x, z) for x in self.asked[f] for z in self.asked[e]
                         if self.one_value(x, z, column) and (policy == "wait" or z not in self.asked[f])]
                found += [("value", self.home, site, column, f, e, *cell) for cell in cells[:1]]
        return found

    def fibre(self, cell):
        return self.part(cell, self.table.key + (() if self.table.reuse else self.table.fixed))

    def part(self, cell, columns):
        return [cell[self.table.columns.index(column)] for column in columns]

    def one_value(self, x, z, column):
        one, other = self.values[x][column], self.values[z][column]
        unlike = self.part(x, self.table.key) != self.part(z, self.table.key)
        return one is not None and one == other and (unlike or any(
            self.grid.sample(cell, other=True) is not None for cell in (x, z)))

    def paper_rows(self):
        """The rows of a paper for this home, numbered by the shortest way."""
        return [(self.home, feed, tuple((cell, self.depth[feed, cell]) for cell in self.asked[feed]))
                for feed in self.net.feeds]

    def arrows(self):
        return [(feed.source, feed.target) for name, feed in self.feeds.items() if self.asked[name]]


def leads(one, other, arrows):
    """Whether a way of one or more arrows leads from one place to another."""
    found = [target for source, target in arrows if source == one]
    for place in found:
        found += [target for source, target in arrows if source == place and target not in found]
    return other in found
