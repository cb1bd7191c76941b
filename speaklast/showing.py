"""Wrong runs for one home: for each kind of failing the runs that are tried, until one of them ends wrong.

Some failings are hidden behind others. They are tried in the order of this
file: what is tried later may rely on what was tried before not being there.
"""

from speaklast.endings import MOST_EVENTS, holds
from speaklast.errors import InvalidFall
from speaklast.rings import ahead, rings_among
from speaklast.rounds import ring_run
from speaklast.rules import failings_of_falls, failings_of_fibres, failings_of_values
from speaklast.scenes import deliver_all, ending_at, run_with


def wrong_run_for(scene, falls):
    """A wrong run with changes of the home of a scene alone, or None if nothing fails for it."""
    found = rings_among(scene.wiring, scene.sieve, scene.brought)
    if found:
        sites, cells = found[0]
        return ring_run(scene, sites, cells[0])
    wrong = shown_by_fall(scene) if falls else None
    if wrong is None:
        wrong = shown_by_insert(scene)
    if wrong is None:
        wrong = shown_by_fibre(scene)
    if wrong is None:
        wrong = shown_by_value(scene)
    return wrong


def finished(run, site):
    """The wrong run that ends with this run, if nothing more can come to the site; None if all is well there."""
    ending = ending_at(run, site)
    if ending is None or len(run) > MOST_EVENTS or not holds(run, ending):
        return None
    done = tuple(run.events())
    return ("wrong", done, ending)


def shown_with(scene, site, changes, held):
    """The wrong run in which these feeds are held back until all changes are made and delivered; or None."""
    feeds = ahead(scene.wiring, site)
    run = run_with(scene, changes, [feed for feed in feeds if feed not in held])
    deliver_all(run, feeds)
    return finished(run, site)


def shown_by_fall(scene):
    """A wrong run with a fall into a site that waits, or None if none does."""
    for place in scene.all_places():
        for failing in failings_of_falls(place):
            site = place.known.name
            feed, cell = failing[3:]
            run = run_with(scene, [("insert", scene.grid.sample(cell))], ahead(scene.wiring, site))
            wrong = finished(run, site)
            if wrong is None:
                wrong = fallen(run, site, feed)
            if wrong is not None:
                return wrong
    return None


def fallen(run, site, feed):
    """What finished tells when the last message of a feed falls back."""
    try:
        run.fall(feed, back=1)
    except InvalidFall:
        return None
    return finished(run, site)


def shown_by_insert(scene):
    """A wrong run with one insert of a cell that two speakers bring to a site that waits, or None."""
    for place in scene.all_places():
        cell = common_cell(place)
        if place.word == "wait" and cell is not None:
            wrong = shown_with(scene, place.known.name, [("insert", scene.grid.sample(cell))], ())
            if wrong is not None:
                return wrong
    return None


def common_cell(place):
    """The least cell that two speakers bring, or None."""
    heard = 0
    common = 0
    for speaker in place.voices:
        common = common | (heard & place.brought[speaker])
        heard = heard | place.brought[speaker]
    return place.sieve.cells_in(common)[0] if common else None


def shown_by_fibre(scene):
    """A wrong run with two rows of one key, or None."""
    for place in scene.all_places():
        for failing in failings_of_fibres(place):
            one, other = failing[5:]
            for first, last in ((one, other), (other, one)):
                wrong = shown_by_rows(scene, first, last)
                if wrong is not None:
                    return wrong
    return None


def shown_by_rows(scene, first, last):
    """A wrong run in which a row of the first cell is changed to one of the last cell, of one key; or None."""
    changes = changes_between(scene, first, last)
    for site, held in held_back(scene, first, last):
        wrong = shown_with(scene, site, changes, held)
        if wrong is not None:
            return wrong
    return None


def changes_between(scene, first, last):
    """The changes that insert a row of the first cell and lead to one of the last cell, of the same key."""
    table = scene.wiring.table
    old = scene.grid.sample(first)
    new = scene.grid.sample(last)
    if table.cut(old, table.fixed) == table.cut(new, table.fixed):
        return [("insert", old), ("update", new)]
    return [("insert", old), ("delete", table.key_of(old)), ("insert", new)]


def held_back(scene, first, last):
    """The list of the pairs (site, feeds): which feeds to hold back so that the site may end wrong.

    No cell comes twice to a site that waits. So where both cells come to it
    from two speakers, each comes from one; those of the first cell are held
    back at all such sites together, and then nothing is blocked before the end.
    """
    waiting = {}
    alone = []
    for place in scene.all_places():
        firsts = [speaker for speaker in place.voices if scene.brings(speaker, first)]
        lasts = [speaker for speaker in place.voices if scene.brings(speaker, last)]
        if place.word == "wait" and firsts and lasts and firsts != lasts:
            waiting[place.known.name] = firsts[0]
        if place.word in ("skip", "put") and lasts:
            alone.extend([(place.known.name, (speaker,)) for speaker in firsts if speaker not in lasts])
    together = tuple(list(waiting.values()))
    return [(site, together) for site in waiting] + alone


def shown_by_value(scene):
    """A wrong run with one value for two keys, or None."""
    for place in scene.all_places():
        for failing in failings_of_values(place):
            changes = changes_of_value(scene, failing[6], failing[7])
            wrong = shown_with(scene, place.known.name, changes, (failing[4],))
            if wrong is not None:
                return wrong
    return None


def changes_of_value(scene, first, last):
    """The changes that make a row of the first cell and, when it is gone, one of another key with the same value."""
    table = scene.wiring.table
    row = scene.grid.sample(first)
    key = table.key_of(row)
    other = scene.grid.sample(last)
    if table.key_of(other) == key:
        other = scene.grid.sample(last, other=True)
    return [("insert", row), ("delete", key), ("insert", other)]
