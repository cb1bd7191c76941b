"""Lists of steps: their form, and whether they do at each site what a plan has to do."""

from speaklast.boxes import allows_steps, is_box
from speaklast.kinds import is_tuple_of, is_word

# In the order in which they stand in a plan.
KINDS = ("sweep", "leave", "rest", "copy", "again")


def is_list_of_steps(net, thing):
    """Whether any value is a list or tuple of allowed steps, kind by kind, each kind in the order of the feeds."""
    if not isinstance(thing, (list, tuple)):
        return False
    last = (-1, -1)
    for step in thing:
        # Each place comes once: so no feed stands twice in a kind.
        if not is_step(net, step) or place_of_step(net, step) <= last:
            return False
        last = place_of_step(net, step)
    return True


def is_step(net, thing):
    """Whether any value is a step that is allowed on a feed of the net."""
    if not (is_tuple_of(thing, 2) or is_tuple_of(thing, 3)):
        return False
    if not (isinstance(thing[1], str) and thing[1] in net.feeds and allows_steps(net, thing[1])):
        return False
    if len(thing) == 2:
        return is_word(thing[0], "rest")
    return isinstance(thing[0], str) and thing[0] in ("sweep", "leave", "copy", "again") and is_box(net, thing[2])


def place_of_step(net, step):
    """Where a step stands in a plan: the index of its kind, then that of its feed."""
    return (KINDS.index(step[0]), net.feeds.index(step[1]))


def boxes_of(steps):
    """The list of the boxes of these steps."""
    return [step[2] for step in steps if step[0] != "rest"]


class Deeds:
    """What a list of steps does, key cell by key cell."""

    def __init__(self, switch, steps):
        self.resting_feeds = [step[1] for step in steps if step[0] == "rest"]
        self.passed = {(step[0], step[1]): switch.box_keys(step[2]) for step in steps if step[0] != "rest"}

    def feeds_that(self, kind, feeds, key_cell):
        """The list of those of the feeds that do a key cell in this way."""
        return [feed for feed in feeds if key_cell in self.passed.get((kind, feed), {})]


def is_done_at(switch, site, deeds):
    """Whether the deeds do at a site what its key cells need, and no more."""
    feeds = switch.wiring.feeds_into(site)
    come = {}
    for key_cell, before, behind in switch.changes_at(site):
        come[key_cell] = True
        if not is_done(deeds, feeds, key_cell, before, behind):
            return False
    return all([brings_nothing(switch, feed, deeds.passed.get(("copy", feed), {}), come) for feed in feeds])


def is_done(deeds, feeds, key_cell, before, behind):
    """Whether the deeds do what a key cell needs that came through some feeds and comes through others."""
    swept = deeds.feeds_that("sweep", feeds, key_cell)
    left = deeds.feeds_that("leave", feeds, key_cell)
    copied = deeds.feeds_that("copy", feeds, key_cell)
    repeated = deeds.feeds_that("again", feeds, key_cell)
    gone = [feed for feed in before if feed not in behind]
    if not all([feed in deeds.resting_feeds for feed in gone]):
        return False
    if not behind:
        return swept == gone and not left + copied + repeated
    if swept or left != gone or copied != [feed for feed in behind if feed not in before]:
        return False
    return all([feed in behind for feed in repeated]) and (not left or len(copied + repeated) > 0)


def brings_nothing(switch, feed, copied, come):
    """Whether none of the copied key cells comes through a feed although it neither came to the site nor is to come."""
    told = switch.source_keys(feed) if copied else {}
    return not [key_cell for key_cell in copied if key_cell in told and key_cell not in come]
