"""The rules of a net that ends right: what fails in a net."""

from speaklast.asked import coming, voices_at
from speaklast.cells import Grid
from speaklast.rings import rings_among
from speaklast.sieves import Sieve


def failings(net, *, falls=False):
    """All that fails in a net, home by home."""
    grid = Grid(net)
    sieve = Sieve(grid)
    for home in net.homes:
        brought = coming(net, sieve, home)
        found = rings_among(net, sieve, brought)
        for sites, cells in found:
            yield ("ring", home, sites, cells[0])
        if not found:
            for site in net.sites:
                place = Place(net, grid, sieve, brought, home, site)
                for failing in failings_at(place, falls):
                    yield failing


class Place:
    """A site, and what comes to it of the rows of a home."""

    def __init__(self, net, grid, sieve, brought, home, site):
        self.table = net.table
        self.grid = grid
        self.sieve = sieve
        self.brought = brought
        self.home = home
        self.known = net.known_site(site)
        # The policy, apart from the site: so another one can be tried without another net.
        self.word = self.known.policy
        self.voices = voices_at(net, brought, site, home)

    def cells_of(self, speaker):
        """The tuple of the cells that a speaker brings, ascending."""
        return self.sieve.cells_in(self.brought[speaker])

    def cells_against(self, speaker, other):
        """The tuple of the cells of another speaker that can be in the way of a speaker, ascending."""
        bits = self.brought[other]
        if self.word != "wait":
            # What both of them bring does no harm where nothing waits.
            bits = bits & ~self.brought[speaker]
        return self.sieve.cells_in(bits)

    def pairs(self):
        """The list of the pairs of two different speakers that are looked at, in order."""
        found = []
        for at, one in enumerate(self.voices):
            others = self.voices[at + 1:]
            if self.word != "wait":
                others = self.voices[:at] + others
            found.extend([(one, other) for other in others])
        return found

    def spots_of(self, columns):
        """The list of the places of these columns in a cell."""
        return [self.table.columns.index(column) for column in columns]

    def spots_of_fibre(self):
        """The list of the places in which cells of one fibre agree."""
        return self.spots_of(self.table.key + (() if self.table.reuse else self.table.fixed))


def failings_at(place, falls):
    """The list of what fails at a place, rings apart."""
    found = failings_of_falls(place) if falls else []
    return found + failings_of_fibres(place) + failings_of_values(place)


def failings_of_falls(place):
    """The list of the feeds that cannot fall, each with its least cell."""
    if place.word != "wait":
        return []
    return [("fall", place.home, place.known.name, feed, place.cells_of(feed)[0])
            for feed in place.voices if feed != ""]


def failings_of_fibres(place):
    """The list of the pairs of speakers that bring one fibre, each with the least cells."""
    if place.word in ("shares", "stamped"):
        return []
    found = []
    for one, other in place.pairs():
        pair = least_that_agree(place, one, other, place.spots_of_fibre())
        if pair is not None:
            found.append(("fibre", place.home, place.known.name, one, other, pair[0], pair[1]))
    return found


def least_that_agree(place, one, other, spots):
    """The least cells that agree at the spots, the first one from a speaker, the second one from another; or None."""
    least = {}
    for cell in place.cells_against(one, other):
        least.setdefault(part_of(cell, spots), cell)
    for cell in place.cells_of(one):
        part = part_of(cell, spots)
        if part in least:
            return (cell, least[part])
    return None


def part_of(cell, spots):
    """What a cell has at these places."""
    return tuple([cell[spot] for spot in spots])


def failings_of_values(place):
    """The list of the pairs of speakers that can bring one value for two keys, column by column."""
    found = []
    for column in place.table.unique:
        if column in place.known.columns:
            for one, other in place.pairs():
                pair = least_of_one_value(place, column, one, other)
                if pair is not None:
                    found.append(("value", place.home, place.known.name, column, one, other, pair[0], pair[1]))
    return found


def least_of_one_value(place, column, one, other):
    """The least cells with one value and unlike keys, as in least_that_agree; or None."""
    at = place.table.columns.index(column)
    nothing = len(place.grid.stretches(column))
    keys = place.spots_of(place.table.key)
    groups = first_two_keys(place.cells_against(one, other), at, keys)
    for cell in place.cells_of(one):
        if cell[at] != nothing:
            for beside in groups.get(cell[at], []):
                if part_of(cell, keys) != part_of(beside, keys) or place.grid.has_unlike_keys(cell):
                    return (cell, beside)
    return None


def first_two_keys(cells, at, keys):
    """The dict from what cells have at a place to the first one that has it, and the first one of another key.

    So whatever the key of a cell is, the first one beside it with another key is among them.
    """
    groups = {}
    for cell in cells:
        group = groups.setdefault(cell[at], [])
        if len(group) < 2 and part_of(cell, keys) not in [part_of(other, keys) for other in group]:
            group.append(cell)
    return groups
