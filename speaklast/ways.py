"""Ways of cells from their home to a site, and whether the site shows only states that it wanted."""

from speaklast.cells import Grid
from speaklast.endings import are_events, played
from speaklast.errors import TooMany
from speaklast.kinds import is_tuple_of, is_word
from speaklast.mixing import is_mixed, mixed_events
from speaklast.rules import failings
from speaklast.scenes import scene_for

MOST_WAYS = 200


def ways(net, home, site):
    """The ascending tuple of all ways of a home's cells to a site."""
    check_names(net, home, site)
    return tuple([way for way, bits in ways_with_cells(scene_for(net, home), site)])


def keeps_whole(net, home, site):
    """("whole",), ("mixed", events) with events that show a mixed state, or ("none", reason)."""
    check_names(net, home, site)
    scene = scene_for(net, home)
    reason = why_not_stated(net)
    if reason is not None:
        return ("none", reason)
    events = mixed_events(scene, site, ways_with_cells(scene, site))
    return ("whole",) if events is None else ("mixed", events)


def shows_mixed(net, home, site, thing):
    """Whether any value is a tuple ("mixed", events) behind which the site shows a state that it never wanted."""
    check_names(net, home, site)
    if not (is_tuple_of(thing, 2) and is_word(thing[0], "mixed") and are_events(thing[1], 0)):
        return False
    Grid(net)
    if why_not_stated(net) is not None or played(net, thing[1]) is None:
        return False
    return is_mixed(net, home, site, thing[1])


def check_names(net, home, site):
    """Raises UnknownName for any value that is no home, then for any that is no site."""
    net.known_home(home)
    net.known_site(site)


def why_not_stated(net):
    """The first reason for which nothing is said of whole states in a net, or None."""
    policies = [net.known_site(site).policy for site in net.sites]
    if "shares" in policies or "stamped" in policies:
        return "policy"
    if net.table.unique:
        return "unique"
    return "wrong" if list(failings(net)) else None


def ways_with_cells(scene, site):
    """The ascending list of the pairs (way, set of the cells that come on it); raises TooMany."""
    found = []
    add_ways(scene, site, (), scene.home, scene.brought[""], found)
    return found


def add_ways(scene, site, way, place, bits, found):
    """Adds the way that leads to a place, if this is the site, and then all ways that begin with it."""
    if place == site and bits:
        found.append((way, bits))
        if len(found) > MOST_WAYS:
            raise TooMany(MOST_WAYS)
    for line in scene.wiring.lines_out_of(place):
        longer = way + (line.name,)
        left = bits & scene.brought[line.name]
        if line.name not in way and not (line.own and way) and leads_on(scene, site, longer, line.target, left):
            add_ways(scene, site, longer, line.target, left, found)


def leads_on(scene, site, way, place, bits):
    """Whether one of these cells comes from a place to the site, over feeds that are neither own nor on the way.

    Without this question long ways could be followed in vain, far more than there are ways to the site.
    """
    at_sites = {other: 0 for other in scene.wiring.sites}
    at_sites[place] = bits
    lines = [line for line in scene.wiring.lines() if not line.own and line.name not in way]
    grown = True
    while grown:
        grown = False
        for line in lines:
            told = at_sites[line.source] & scene.brought[line.name]
            if told & ~at_sites[line.target]:
                at_sites[line.target] = at_sites[line.target] | told
                grown = True
    return at_sites[site] > 0
