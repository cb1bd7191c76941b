"""Mixed states: rows that a site shows together although it never wanted them together."""

from speaklast.filters import truth_of
from speaklast.rules import part_of
from speaklast.runs import Run, do_event


def mixed_events(scene, site, pairs):
    """The events that show a mixed state at a site, or None; pairs are all ways to it, each with its cells.

    A row comes on one way and goes again, one of another key comes on another
    way; then the first one comes late. This fails only if all feeds of the
    late way stand on the other way, too: then it shows with both exchanged.
    """
    told = [(way, cells_with_keys(scene, bits)) for way, bits in pairs]
    for late_way, firsts in told:
        for way, lasts in told:
            rows = rows_of_unlike_keys(scene, firsts, lasts)
            if late_way != way and rows is not None:
                events = late_insert(scene, site, late_way, way, rows)
                if is_mixed(scene.wiring, scene.home, site, events):
                    return events
    return None


def cells_with_keys(scene, bits):
    """The list of the first cell of a set, and of the first one with other key columns; each with its key columns."""
    table = scene.wiring.table
    spots = [table.columns.index(column) for column in table.key]
    found = []
    for cell in scene.sieve.cells_in(bits):
        key = part_of(cell, spots)
        if not found or (len(found) == 1 and found[0][1] != key):
            found.append((cell, key))
    return found


def rows_of_unlike_keys(scene, firsts, lasts):
    """A row of one of the first cells and a row of one of the last cells, of unlike keys; or None."""
    grid = scene.grid
    for first, key in firsts:
        for last, other_key in lasts:
            if key != other_key:
                return (grid.sample(first), grid.sample(last))
            if grid.has_unlike_keys(last):
                return (grid.sample(first), grid.sample(last, other=True))
    return None


def late_insert(scene, site, late_way, way, rows):
    """The events in which all of a way is delivered, and only then the insert of the first row on another one."""
    table = scene.wiring.table
    row, other = rows
    key = table.key_of(row)
    run = Run(scene.wiring)
    for word, thing in (("insert", row), ("delete", key), ("insert", other)):
        run.make(scene.home, word, thing)
    for feed in way:
        while run.pending(feed):
            run.deliver(feed)
    for feed in late_way:
        target = scene.wiring.line_of(feed).target
        while run.pending(feed) and not is_shown(run, target, key):
            run.deliver(feed)
    return tuple(run.events())


def is_shown(run, site, key):
    """Whether a site shows a row of a key."""
    spots = key_spots(run.net, site)
    return any([part_of(row, spots) == key for row in run.held(site)])


def key_spots(net, site):
    """The list of the places of the key columns in the rows of a site."""
    columns = net.known_site(site).columns
    return [columns.index(column) for column in net.table.key]


def is_mixed(net, home, site, events):
    """Whether the site shows, of the home's keys, other rows behind the events than it wanted behind any changes."""
    run = Run(net)
    wanted = [of_home(net, home, site, run.wanted(site))]
    for event in events:
        do_event(run, event)
        if event[0] == "make" and event[1] == home:
            wanted.append(of_home(net, home, site, run.wanted(site)))
    return of_home(net, home, site, run.held(site)) not in wanted


def of_home(net, home, site, rows):
    """The list of those rows of a site whose keys are the home's."""
    region = net.known_home(home).home.tree
    spots = key_spots(net, site)
    return [row for row in rows if truth_of(region, dict(zip(net.table.key, part_of(row, spots)))) is True]
