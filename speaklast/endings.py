"""How a wrong run ends: the form of its events, and whether its ending holds."""

from speaklast.errors import Blocked, FeedError, InvalidFall, NothingPending, UnknownName
from speaklast.kinds import is_tuple_of, is_word
from speaklast.rings import ahead
from speaklast.runs import Run, play

MOST_EVENTS = 5000
MOST_CHANGES = 3
MOST_OF_A_ROUND = 500


def are_events(thing, falls):
    """Whether any value is a tuple of events, few enough, with at most this number of falls."""
    if not (isinstance(thing, tuple) and len(thing) <= MOST_EVENTS):
        return False
    counts = {"make": 0, "deliver": 0, "fall": 0}
    for event in thing:
        word = word_of(event)
        if word is None:
            return False
        counts[word] += 1
    return counts["make"] <= MOST_CHANGES and counts["fall"] <= falls


def word_of(event):
    """The first word of any value that has the form of a change, a delivery or a fall; otherwise None."""
    for word, size in (("make", 4), ("deliver", 2), ("fall", 3)):
        if is_tuple_of(event, size) and is_word(event[0], word):
            return word
    return None


def played(net, events):
    """The run in which these events were done, or None if one of them raises an error."""
    run = Run(net)
    try:
        play(run, events)
    except (FeedError, UnknownName, NothingPending, Blocked, InvalidFall):
        return None
    return run


def holds(run, ending):
    """Whether any value is an ending that holds behind a run."""
    if not is_tuple_of(ending, 2):
        return False
    word, thing = ending
    if is_word(word, "site"):
        return ends_wrong(run, thing)
    if is_word(word, "waits"):
        return ends_waiting(run, thing)
    return is_word(word, "round") and is_round(run, thing)


def ends_wrong(run, site):
    """Whether nothing more comes to a site, which is not right."""
    net = run.net
    if not (isinstance(site, str) and site in net.sites):
        return False
    left = [feed for feed in ahead(net, site) if run.pending(feed)]
    return not left and not run.right(site)


def ends_waiting(run, feed):
    """Whether a feed waits, and whatever could still come to its target waits, too."""
    net = run.net
    held_up = run.stuck
    if not (isinstance(feed, str) and feed in held_up):
        return False
    left = [other for other in ahead(net, net.line_of(feed).target) if run.pending(other)]
    return all([other in held_up for other in left])


def is_round(run, feeds):
    """Whether delivering these feeds in order changes nothing."""
    net = run.net
    if not (isinstance(feeds, tuple) and 1 <= len(feeds) <= MOST_OF_A_ROUND):
        return False
    if not all([isinstance(feed, str) and feed in net.feeds for feed in feeds]):
        return False
    targets = [net.line_of(feed).target for feed in feeds]
    if any([net.known_site(site).policy in ("shares", "stamped") for site in targets]):
        return False
    behind = run.twin()
    try:
        for feed in feeds:
            behind.deliver(feed)
    except (NothingPending, Blocked):
        return False
    same_rows = all([behind.held(site) == run.held(site) for site in targets])
    return same_rows and all([behind.pending(feed) == run.pending(feed) for feed in feeds])
