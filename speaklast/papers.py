"""Papers: what is asked in a net in which nothing fails, with numbers that show it."""

from speaklast.asked import coming
from speaklast.cells import Grid
from speaklast.kinds import is_number, is_tuple_of, is_word
from speaklast.rules import failings
from speaklast.sieves import Sieve


def shows_right(net, thing, *, falls=False):
    """Whether any value is a tuple ("right", rows) with a paper that holds."""
    grid = Grid(net)
    if not (is_tuple_of(thing, 2) and is_word(thing[0], "right")):
        return False
    rows = thing[1]
    wanted = [(home, feed) for home in net.homes for feed in net.feeds]
    if not (is_tuple_of(rows, len(wanted)) and all([is_tuple_of(row, 3) for row in rows])):
        return False
    if not all([is_told(row, home, feed) for row, (home, feed) in zip(rows, wanted)]):
        return False
    if not all([are_entries(grid, entries) for home, feed, entries in rows]):
        return False
    return shows_asked(net, grid, rows) and not list(failings(net, falls=falls))


def is_told(row, home, feed):
    """Whether a row tells of this home and this feed."""
    return is_word(row[0], home) and is_word(row[1], feed)


def are_entries(grid, entries):
    """Whether any value is a tuple of tuples (cell, number), with numbers from 1 on."""
    if not isinstance(entries, tuple):
        return False
    return all([is_tuple_of(entry, 2) and entry[0] in grid and is_number(entry[1]) and entry[1] >= 1
                for entry in entries])


def shows_asked(net, grid, rows):
    """Whether the entries have just the cells that are asked, with numbers that go up along the feeds."""
    sieve = Sieve(grid)
    for home in net.homes:
        brought = coming(net, sieve, home)
        entries = {feed: told for other, feed, told in rows if other == home}
        for feed in net.feeds:
            if tuple([cell for cell, number in entries[feed]]) != sieve.cells_in(brought[feed]):
                return False
        if not all([goes_up(net, home, feed, entries) for feed in net.feeds]):
            return False
    return True


def goes_up(net, home, feed, entries):
    """Whether each asked cell of a feed is made at its source, or comes there with a lesser number."""
    source = net.line_of(feed).source
    if source == home:
        return True
    least = {}
    for other in net.feeds_into(source):
        for cell, number in entries[other]:
            least[cell] = min(number, least.get(cell, number))
    return all([least[cell] < number for cell, number in entries[feed]])
