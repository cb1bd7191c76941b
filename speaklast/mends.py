"""Mends: the cheapest other policies with which a net ends right."""

from speaklast.forms import has_unique
from speaklast.graphs import reached_from
from speaklast.nets import Net
from speaklast.rules import failings, failings_at
from speaklast.scenes import scenes_of
from speaklast.sites import Site


def mend(net, prices, *, falls=False):
    """("mend", changed, price) with the cheapest right net, or ("none", failing)."""
    scenes = scenes_of(net)
    choices = {site: choices_at(net, scenes, site, prices, falls) for site in net.sites}
    best = None
    for stamped in sets_of_sites(net.sites):
        if can_be_stamped(net, stamped) and not goes_round(net, scenes, stamped):
            least = cheapest(choices, stamped)
            if least is not None and (best is None or least < best):
                best = least
    if best is None:
        found = list(failings(net, falls=falls))
        return ("none", found[0])
    price, places = best
    return ("mend", with_policies(net, [Site.POLICIES[place] for place in places]), price)


def choices_at(net, scenes, site, prices, falls):
    """The list of the pairs (price, index of a policy) that a site can have, by themselves, without failing."""
    found = []
    for place, word in enumerate(Site.POLICIES):
        price = 0 if word == net.known_site(site).policy else prices.get(word)
        if price is not None and fits(net, site, word) and not fails_with(scenes, site, word, falls):
            found.append((price, place))
    return found


def fits(net, site, word):
    """Whether a policy has the form of a net at a site, whatever the other sites have; so stamps are not looked at."""
    if word not in ("wait", "put") and has_unique(net.table, net.known_site(site)):
        return False
    arrows = [(line.source, line.target) for line in net.lines() if not line.own]
    return word != "shares" or site not in reached_from(site, arrows)


def fails_with(scenes, site, word, falls):
    """Whether a site fails with a policy for one of the homes, if there is no ring."""
    for scene in scenes:
        place = scene.place_at(site)
        place.word = word
        if failings_at(place, falls):
            return True
    return False


def sets_of_sites(sites):
    """The list of all sets of sites, as tuples."""
    found = [()]
    for site in sites:
        found = found + [chosen + (site,) for chosen in found]
    return found


def can_be_stamped(net, stamped):
    """Whether each feed into one of these sites sends stamps, if just these sites are stamped."""
    return all([line.own or line.source in stamped for line in net.lines() if line.target in stamped])


def goes_round(net, scenes, stamped):
    """Whether there is a ring for one of the homes, if just these sites are stamped."""
    lines = [line for line in net.lines()
             if not line.own and line.source not in stamped and line.target not in stamped]
    for scene in scenes:
        # A cell that can go on from each site that it comes to goes round.
        left = {line.name: scene.brought[line.name] for line in lines}
        shrunk = True
        while shrunk:
            shrunk = False
            for line in lines:
                onward = cells_out_of(lines, left, line.target)
                if left[line.name] & ~onward:
                    left[line.name] = left[line.name] & onward
                    shrunk = True
        if any([bits > 0 for bits in left.values()]):
            return True
    return False


def cells_out_of(lines, left, site):
    """The set of the cells that are left on the lines out of a site."""
    bits = 0
    for line in lines:
        if line.source == site:
            bits = bits | left[line.name]
    return bits


def cheapest(choices, stamped):
    """The least pair (price, indexes of the policies), if just these sites are stamped; or None."""
    stamp = Site.POLICIES.index("stamped")
    price = 0
    places = []
    for site in choices:
        allowed = [choice for choice in choices[site] if (choice[1] == stamp) == (site in stamped)]
        if not allowed:
            return None
        cost, place = min(allowed)
        price = price + cost
        places.append(place)
    return (price, tuple(places))


def with_policies(net, words):
    """The net in which the sites have these policies, in order."""
    sites = [Site.of(site.name, site.columns, policy=word, home=site.home)
             for site, word in zip(net.site_list, words)]
    return Net.of(net.table, sites + net.feed_list)
