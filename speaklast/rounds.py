"""Runs in which an insert and a delete go round in a ring for ever."""

from speaklast.runs import Run


def ring_run(scene, sites, cell):
    """The wrong run of a ring: the sites of the ring, and one of its cells."""
    row = scene.grid.sample(cell)
    key = scene.wiring.table.key_of(row)
    way = way_into(scene, sites, cell)
    entry = scene.home if not way else scene.wiring.line_of(way[-1]).target
    run = Run(scene.wiring)
    for word, thing in (("insert", row), ("delete", key)):
        run.make(scene.home, word, thing)
        for feed in way:
            run.deliver(feed)
    done = tuple(run.events())
    feeds = []
    for feed in way_around(scene, sites, cell, entry):
        # The insert, and the delete behind it.
        feeds.extend([feed, feed])
    return ("wrong", done, ("round", tuple(feeds)))


def way_into(scene, sites, cell):
    """The tuple of the feeds of a shortest way on which a cell comes from its home to one of these sites."""
    if scene.home in sites:
        return ()
    lines = [line for line in scene.wiring.lines() if scene.brings(line.name, cell)]
    return shortest([line for line in lines if not line.own or line.source == scene.home], scene.home, sites)


def way_around(scene, sites, cell, entry):
    """The tuple of the feeds of a shortest way on which a cell comes within these sites from one back to it."""
    lines = [line for line in scene.wiring.lines() if not line.own and scene.brings(line.name, cell)]
    return shortest([line for line in lines if line.source in sites and line.target in sites], entry, (entry,))


def shortest(lines, start, ends):
    """The tuple of the names of the lines of a shortest way of one or more lines from a site to one of the ends."""
    ways = [((), start)]
    passed = {}
    while ways:
        longer = []
        for way, place in ways:
            for line in lines:
                if line.source == place and line.target not in passed:
                    passed[line.target] = True
                    longer.append((way + (line.name,), line.target))
        for way, place in longer:
            if place in ends:
                return way
        ways = longer
    return ()
