"""The form of a net: its rules, in the order in which they are looked at.

Each rule returns the list of the names that break it, in order; each one may
rely on those before it.
"""

from speaklast.errors import InvalidNet
from speaklast.graphs import reached_from
from speaklast.regions import share_a_key


def all_in(names, columns):
    """Whether all names are among the columns."""
    return all([name in columns for name in names])


def homes_of(net):
    """The list of the sites that are homes."""
    return [site for site in net.site_list if site.home is not None]


def breaking_name(net):
    """Names that an earlier site or feed has."""
    names = [thing.name for thing in net.site_list + net.feed_list]
    return [name for at, name in enumerate(names) if name in names[:at]]


def breaking_columns(net):
    """Sites with a strange column, or without one that they need."""
    table = net.table
    found = []
    for site in net.site_list:
        needed = table.key if site.home is None else table.columns
        if not (all_in(site.columns, table.columns) and all_in(needed, site.columns)):
            found.append(site.name)
    return found


def breaking_ends(net):
    """Feeds that do not lead from a site to another one."""
    names = [site.name for site in net.site_list]
    return [feed.name for feed in net.feed_list
            if feed.source not in names or feed.target not in names or feed.source == feed.target]


def breaking_sent(net):
    """Feeds whose target or filter has a column that the source has not."""
    columns = {site.name: site.columns for site in net.site_list}
    return [feed.name for feed in net.feed_list
            if not all_in(columns[feed.target] + feed.where.columns, columns[feed.source])]


def breaking_homes(net):
    """Homes with a wrong region; homes too many; [None] if there is no home."""
    homes = homes_of(net)
    wrong = [site.name for site in homes if not all_in(site.home.columns, net.table.key)]
    if wrong:
        return wrong
    if not homes:
        return [None]
    for at, site in enumerate(homes):
        if at >= net.MOST_HOMES or shares_with_one(net.table, site, homes[:at]):
            return [site.name]
    return []


def shares_with_one(table, site, earlier):
    """Whether a key of this home is one of an earlier home, too."""
    for other in earlier:
        if share_a_key(table.key, other.home, site.home):
            return True
    return False


def breaking_unique(net):
    """Homes behind the first one, if a column is unique."""
    return [site.name for site in homes_of(net)[1:] if net.table.unique]


def breaking_policy(net):
    """Sites that have a unique column and neither wait nor put."""
    return [site.name for site in net.site_list
            if site.policy not in ("wait", "put") and has_unique(net.table, site)]


def has_unique(table, site):
    """Whether a site has a unique column."""
    return any([column in table.unique for column in site.columns])


def breaking_own(net):
    """Own feeds whose source is no home."""
    homes = [site.name for site in homes_of(net)]
    return [feed.name for feed in net.feed_list if feed.own and feed.source not in homes]


def breaking_stamps(net):
    """Feeds into a stamped site that could send no stamp."""
    stamped = [site.name for site in net.site_list if site.policy == "stamped"]
    return [feed.name for feed in net.feed_list
            if feed.target in stamped and feed.source not in stamped and not feed.own]


def breaking_loop(net):
    """Sites that share and to which their own rows come back."""
    arrows = [(feed.source, feed.target) for feed in net.feed_list if not feed.own]
    sharing = [site.name for site in net.site_list if site.policy == "shares"]
    return [name for name in sharing if name in reached_from(name, arrows)]


def check_form(net):
    """Raises InvalidNet with the first reason that applies, and the first name that breaks it."""
    refuse("name", breaking_name(net))
    refuse("columns", breaking_columns(net))
    refuse("ends", breaking_ends(net))
    refuse("sent", breaking_sent(net))
    refuse("homes", breaking_homes(net))
    refuse("unique", breaking_unique(net))
    refuse("policy", breaking_policy(net))
    refuse("own", breaking_own(net))
    refuse("stamps", breaking_stamps(net))
    refuse("loop", breaking_loop(net))


def refuse(reason, names):
    """Raises InvalidNet with the first of the names that break a rule, if there is one."""
    if names:
        raise InvalidNet(reason, names[0])
