"""Plans: lists of steps that lead a run from one net to another one without a gap."""

from speaklast.boxes import allows_steps, check_step, is_box
from speaklast.covers import box_of
from speaklast.kinds import is_tuple_of, is_word
from speaklast.rules import failings
from speaklast.runs import do_event
from speaklast.steps import KINDS, Deeds, boxes_of, is_done_at, is_list_of_steps
from speaklast.switches import Switch, are_akin


def plan(net, other):
    """("plan", steps) with the least list of steps from one net to another one, or ("none", reason, name)."""
    if not are_akin(net, other):
        return ("none", "akin", None)
    switch = Switch(net, other, [])
    reason = why_none(net, other, switch)
    if reason is not None:
        return ("none",) + reason
    steps = []
    for kind, feed, key_cells in tasks_of(switch):
        if kind == "rest":
            steps.append(("rest", feed))
        else:
            steps.append((kind, feed, box_of(switch.grid, net.table.key, key_cells)))
    return ("plan", steps)


def classes(net, other, site):
    """The tuple of the tuples (key cell, feeds before, feeds behind) of a site in which these feeds differ."""
    net.known_site(site)
    if not are_akin(net, other):
        return ()
    changes = Switch(net, other, []).changes_at(site)
    return tuple([change for change in changes if change[1] != change[2]])


def forced(net, other):
    """The tuple of the tuples (kind, feed, key cell): for each step of a plan the least key cell that needs it."""
    if not are_akin(net, other):
        return ()
    switch = Switch(net, other, [])
    if why_none(net, other, switch) is not None:
        return ()
    return tuple([(kind, feed, key_cells[0]) for kind, feed, key_cells in tasks_of(switch)])


def shows_plan(net, other, thing):
    """Whether any value is a tuple ("plan", steps) with a list that leads from one net to another one."""
    if not are_akin(net, other):
        return False
    switch = Switch(net, other, [])
    if not (is_tuple_of(thing, 2) and is_word(thing[0], "plan") and is_list_of_steps(net, thing[1])):
        return False
    steps = list(thing[1])
    finer = Switch(net, other, boxes_of(steps))
    if why_none(net, other, switch) is not None:
        return False
    deeds = Deeds(finer, steps)
    return all([is_done_at(finer, site, deeds) for site in net.sites])


def do_steps(run, steps):
    """Does the steps in order and yields each one; ahead of a rest all messages of its feed are delivered."""
    for step in steps:
        if step[0] == "rest":
            deliver_pending(run, step[1])
        do_event(run, step)
        yield step


def deliver_pending(run, feed):
    """Delivers all pending messages of a feed on which steps are allowed."""
    check_step(run.net, feed)
    while run.pending(feed):
        run.deliver(feed)


def why_none(net, other, switch):
    """The first reason, with its name, for which no plan leads from one net to an akin one; None if one does."""
    for at, one in enumerate((net, other)):
        if list(failings(one)):
            return ("wrong", at)
    for feed in net.feeds:
        before = net.known_feed(feed).where
        behind = other.known_feed(feed).where
        if before != behind and not (allows_steps(net, feed) and is_box(net, before) and is_box(net, behind)):
            return ("feed", feed)
    for site in net.sites:
        same = switch.wanted_cells(site, switch.before) == switch.wanted_cells(site, switch.behind)
        if net.lines_out_of(site) and not same:
            return ("relay", site)
    return None


def tasks_of(switch):
    """The list of the tuples (kind, feed, key cells), in the order of a plan: what each step has to be done for."""
    found = {}
    for site in switch.wiring.sites:
        for key_cell, before, behind in switch.changes_at(site):
            for task in tasks_for(before, behind):
                found.setdefault(task, []).append(key_cell)
    return [(kind, feed, found[(kind, feed)]) for kind in KINDS for feed in switch.wiring.feeds
            if (kind, feed) in found]


def tasks_for(before, behind):
    """The list of the pairs (kind, feed) that a key cell needs: the feeds through which it came, and will come."""
    gone = [feed for feed in before if feed not in behind]
    fresh = [feed for feed in behind if feed not in before]
    word = "leave" if behind else "sweep"
    found = [(word, feed) for feed in gone] + [("rest", feed) for feed in gone] + [("copy", feed) for feed in fresh]
    # What a feed that leaves sent last may be an old row: some feed that stays must speak behind it.
    if gone and behind and not fresh:
        found.append(("again", behind[0]))
    return found
