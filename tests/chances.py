"""Nets, rows and histories by chance, for tests that compare the program with slow words of their own."""

from speaklast.errors import Blocked, InvalidChange, InvalidFall, InvalidNet, NothingPending
from speaklast.feeds import Feed
from speaklast.filters import Filter
from speaklast.nets import Net
from speaklast.ranges import Ranges
from speaklast.sites import Site
from speaklast.tables import Table

SITE_NAMES = ("h", "a", "b", "c", "d")
POLICIES = ("put", "put", "wait", "skip", "shares", "stamped")


def chance_condition(chance, columns):
    kind = chance.randrange(8)
    if kind == 0:
        return Filter.always()
    column = chance.choice(columns)
    if kind == 1:
        return Filter.missing(column)
    low = chance.randrange(-1, 2)
    return Filter.within(column, Ranges.between(low, chance.choice((low, low + 1, None))))


def chance_filter(chance, columns):
    if chance.random() < 0.3:
        return Filter.always()
    made = chance_condition(chance, columns)
    while chance.random() < 0.35:
        other = chance_condition(chance, columns)
        made = made & other if chance.random() < 0.5 else made | other
        if chance.random() < 0.3:
            made = ~made
    return made


def chance_table(chance):
    columns = ("k", "r", "u")[:chance.choice((2, 2, 3))]
    if chance.random() < 0.15:
        columns = ("k", "l", "r")
    key = ("k", "l") if "l" in columns else ("k",)
    others = [column for column in columns if column not in key]
    fixed = tuple(column for column in others if chance.random() < 0.3)
    unique = tuple(column for column in others if chance.random() < 0.2)
    return Table(*columns, key=key, fixed=fixed, unique=unique, reuse=chance.random() < 0.6)


def mixed(chance, things):
    things = list(things)
    chance.shuffle(things)
    return things


def chance_sites(chance, table):
    regions = [Filter.always()]
    if chance.random() < 0.35:
        low = Filter.within("k", Ranges.between(None, 0))
        regions = [low, ~low]
    sites = []
    for name in SITE_NAMES[:chance.randint(2, 4)]:
        columns = list(table.columns)
        home = regions.pop() if regions else None
        if home is None and chance.random() < 0.3:
            columns.remove(chance.choice([column for column in columns if column not in table.key]))
        policy = chance.choice(("put", "wait") if table.unique else POLICIES)
        sites.append(Site(name, *mixed(chance, columns), policy=policy, home=home))
    return mixed(chance, sites)


def chance_feed(chance, name, sites):
    source, target = chance.sample(sites, 2)
    own = source.home is not None and chance.random() < 0.4
    return Feed(name, source.name, target.name, where=chance_filter(chance, source.columns), own=own)


def chance_net(chance):
    """A net of 2 to 4 sites and up to 5 feeds; many of them fail, many do not."""
    while True:
        table = chance_table(chance)
        sites = chance_sites(chance, table)
        feeds = [chance_feed(chance, name, sites) for name in ("e", "f", "g", "i", "j")[:chance.randint(1, 5)]]
        try:
            return Net(table, *sites, *feeds)
        except InvalidNet:
            continue


def chance_row(chance, table):
    return tuple(chance.choice((-1, 0, 1, 2)) if column in table.key else chance.choice((None, -1, 0, 1, 2))
                 for column in table.columns)


def make_by_chance(chance, run):
    """Tries a change; whether it was made."""
    table = run.net.table
    row = chance_row(chance, table)
    word = chance.choice(("insert", "insert", "update", "delete"))
    try:
        run.make(chance.choice(run.net.homes), word, table.key_of(row) if word == "delete" else row)
    except InvalidChange:
        return False
    return True


def deliver_by_chance(chance, run):
    """Delivers a message of some feed; whether there was one that could be delivered."""
    for feed in mixed(chance, run.net.feeds):
        try:
            run.deliver(feed)
        except (NothingPending, Blocked):
            continue
        return True
    return False


def settle_by_chance(chance, run, most=400):
    """Delivers in some order; whether the net came to rest."""
    for _ in range(most):
        if not deliver_by_chance(chance, run):
            return True
    return False


def drive_by_chance(chance, run, falls, events):
    """Changes, deliveries and, if falls are asked, falls in some order."""
    for _ in range(events):
        kind = chance.random()
        if kind < 0.4:
            make_by_chance(chance, run)
        elif kind < 0.55 and falls and run.net.feeds:
            try:
                run.fall(chance.choice(run.net.feeds), back=chance.randrange(1, 5))
            except InvalidFall:
                pass
        else:
            deliver_by_chance(chance, run)
