"""What sites show, and how they treat messages by their policies.

Each of the five classes tells all that a holding can be asked, so that each
one can be read by itself; what they have in common stands in Holding, under
names of its own.
"""

from speaklast.errors import Blocked, UnknownName
from speaklast.filters import truth_of
from speaklast.kinds import is_key
from speaklast.tables import rows_by_key


class Holding:
    """The rows that a site of a net shows, at first none."""

    def __init__(self, net, name):
        site = net.known_site(name)
        self.wiring = net
        self.name = name
        self.key = net.table.key
        self.sources = net.feeds_into(name)
        self.key_spots = [site.columns.index(column) for column in net.table.key]
        self.unique_spots = [site.columns.index(column) for column in net.table.unique if column in site.columns]
        self.shown = {}
        # The key that shows a value in a unique column: two shown rows never clash.
        self.owners = {}

    def take(self, feed, message):
        """Treats a message of a feed into the site; each policy has a way of its own."""
        self.check_source(feed)
        raise NotImplementedError("each policy has a class of its own")

    def make(self, key, new, stamp):
        """Takes a made change; each policy has a way of its own."""
        raise NotImplementedError("each policy has a class of its own")

    @property
    def rows(self):
        """The tuple of the shown rows, ascending by key."""
        return rows_by_key(self.shown)

    def __call__(self, key):
        return self.row_at(key)

    def __len__(self):
        return len(self.shown)

    def check_source(self, feed):
        """Raises UnknownName for any value that is no feed into the site."""
        if not (isinstance(feed, str) and feed in self.sources):
            raise UnknownName(feed)

    def row_at(self, key):
        """The shown row of any value, or None."""
        return self.shown.get(key) if is_key(key, len(self.key)) else None

    def key_at(self, row):
        """The key of a row of the site."""
        return tuple([row[spot] for spot in self.key_spots])

    def holds_back(self, message):
        """Whether the message is blocked; only a site that waits blocks any."""
        return False

    def is_amiss(self, message):
        """Whether a site that waits blocks the message, and one that skips passes it over."""
        word, thing = message
        if word == "delete":
            return thing not in self.shown
        key = self.key_at(thing)
        return (key in self.shown) == (word == "insert") or len(self.clashing(key, thing)) > 0

    def clashing(self, key, row):
        """The keys of the shown rows with which a row of this key clashes, ascending."""
        found = [self.owners.get(place, key) for place in self.unique_places(row)]
        return sorted(set([other for other in found if other != key]))

    def unique_places(self, row):
        """The pairs (spot, value) that no other row may have beside a row; none for no row."""
        if row is None:
            return []
        return [(spot, row[spot]) for spot in self.unique_spots if row[spot] is not None]

    def put_message(self, message):
        """Treats an insert, an update or a delete as by put; returns the list of the steps."""
        word, thing = message
        return self.remove_row(thing) if word == "delete" else self.put_row(thing)

    def put_made(self, key, new):
        """Takes a made change as by put; returns the tuple of the steps."""
        return tuple(self.remove_row(key) if new is None else self.put_row(new))

    def put_row(self, row):
        """Writes a row, ahead of it removes those with which it clashes; returns the list of the steps."""
        key = self.key_at(row)
        steps = []
        for other in self.clashing(key, row):
            steps.extend(self.remove_row(other))
        steps.extend(self.show_row(key, row))
        return steps

    def remove_row(self, key):
        """Removes the row of a key, if there is one; returns the list of the steps."""
        return self.show_row(key, None)

    def show_row(self, key, row):
        """Shows this row of a key, None for none; returns the list of the steps: none if it is shown already."""
        old = self.shown.pop(key, None)
        for place in self.unique_places(old):
            del self.owners[place]
        for place in self.unique_places(row):
            self.owners[place] = key
        if row is not None:
            self.shown[key] = row
        return [] if old == row else [(key, old, row)]

    def adopt(self, other):
        """Shows what another holding of this class shows."""
        self.shown = {key: other.shown[key] for key in other.shown}
        self.owners = {place: other.owners[place] for place in other.owners}


class Waiting(Holding):
    """What cannot be written waits."""

    POLICY = "wait"

    def take(self, feed, message):
        """Treats a message, or raises Blocked."""
        self.check_source(feed)
        if self.is_amiss(message):
            raise Blocked(feed)
        return tuple(self.put_message(message))

    def make(self, key, new, stamp):
        """Takes a made change as by put."""
        return self.put_made(key, new)

    @property
    def rows(self):
        """The tuple of the shown rows, ascending by key."""
        return rows_by_key(self.shown)

    def __call__(self, key):
        return self.row_at(key)

    def __len__(self):
        return len(self.shown)

    def holds_back(self, message):
        """Whether the message is blocked."""
        return self.is_amiss(message)


class Skipping(Holding):
    """What cannot be written is passed over."""

    POLICY = "skip"

    def take(self, feed, message):
        """Treats a message, or passes it over."""
        self.check_source(feed)
        return () if self.is_amiss(message) else tuple(self.put_message(message))

    def make(self, key, new, stamp):
        """Takes a made change as by put."""
        return self.put_made(key, new)

    @property
    def rows(self):
        """The tuple of the shown rows, ascending by key."""
        return rows_by_key(self.shown)

    def __call__(self, key):
        return self.row_at(key)

    def __len__(self):
        return len(self.shown)


class Putting(Holding):
    """All is written, whatever is shown."""

    POLICY = "put"

    def take(self, feed, message):
        """Treats a message, also one that replaces the rows of a box."""
        self.check_source(feed)
        if message[0] == "replace":
            return tuple(self.replace_box(message[1], message[2]))
        return tuple(self.put_message(message))

    def make(self, key, new, stamp):
        """Takes a made change as by put."""
        return self.put_made(key, new)

    @property
    def rows(self):
        """The tuple of the shown rows, ascending by key."""
        return rows_by_key(self.shown)

    def __call__(self, key):
        return self.row_at(key)

    def __len__(self):
        return len(self.shown)

    def replace_box(self, box, rows):
        """Removes the shown rows in a box that are not told, writes those that are; returns the list of the steps."""
        kept = {self.key_at(row): True for row in rows}
        doomed = [key for key in sorted(list(self.shown))
                  if key not in kept and truth_of(box.tree, dict(zip(self.key, key))) is True]
        steps = []
        for key in doomed:
            steps.extend(self.remove_row(key))
        for row in rows:
            steps.extend(self.put_row(row))
        return steps


class Sharing(Holding):
    """The rows of each feed are kept apart; the first feed that has one is shown."""

    POLICY = "shares"

    def __init__(self, net, name):
        super().__init__(net, name)
        # The made rows stand ahead of all feeds; their name is the empty string.
        self.shares = {source: {} for source in ("",) + self.sources}

    def take(self, feed, message):
        """Treats a message in the share of its feed."""
        self.check_source(feed)
        word, thing = message
        if word == "delete":
            return self.keep(feed, thing, None)
        return self.keep(feed, self.key_at(thing), thing)

    def make(self, key, new, stamp):
        """Takes a made change in the share of the made rows."""
        return self.keep("", key, new)

    @property
    def rows(self):
        """The tuple of the shown rows, ascending by key."""
        return rows_by_key(self.shown)

    def __call__(self, key):
        return self.row_at(key)

    def __len__(self):
        return len(self.shown)

    def share(self, feed):
        """The tuple of the rows that are kept for a feed, ascending by key."""
        if not (isinstance(feed, str) and feed in self.shares):
            raise UnknownName(feed)
        return rows_by_key(self.shares[feed])

    def keep(self, source, key, row):
        """Keeps a row, None for none, in a share; returns the tuple of the steps."""
        kept = self.shares[source]
        kept.pop(key, None)
        if row is not None:
            kept[key] = row
        rows = [told[key] for told in self.shares.values() if key in told]
        return tuple(self.show_row(key, rows[0] if rows else None))

    def adopt(self, other):
        """Keeps and shows what another holding of this class does."""
        super().adopt(other)
        self.shares = {source: {key: told[key] for key in told} for source, told in other.shares.items()}


class Stamping(Holding):
    """The row with the greatest stamp is shown."""

    POLICY = "stamped"

    def __init__(self, net, name):
        super().__init__(net, name)
        self.stamps = {}

    def take(self, feed, message):
        """Accepts a message, or passes it over."""
        self.check_source(feed)
        word, stamp, thing = message
        row = thing if word == "row" else None
        key = self.key_at(thing) if word == "row" else thing
        kept = self.stamp_of(key)
        brings_row = row is not None and key not in self.shown
        if stamp > kept or (stamp == kept and brings_row):
            return self.accept(key, row, stamp)
        return ()

    def make(self, key, new, stamp):
        """Accepts a made change."""
        return self.accept(key, new, stamp)

    @property
    def rows(self):
        """The tuple of the shown rows, ascending by key."""
        return rows_by_key(self.shown)

    def __call__(self, key):
        return self.row_at(key)

    def __len__(self):
        return len(self.shown)

    def stamp_of(self, key):
        """The greatest stamp that was accepted for a key, or 0."""
        return self.stamps.get(key, 0) if is_key(key, len(self.key)) else 0

    def accept(self, key, row, stamp):
        """Keeps a stamp and a row; tells a step even if the row stays the same."""
        old = self.shown.get(key)
        self.show_row(key, row)
        self.stamps[key] = stamp
        return ((key, old, row),)

    def adopt(self, other):
        """Keeps and shows what another holding of this class does."""
        super().adopt(other)
        self.stamps = {key: other.stamps[key] for key in other.stamps}


def holding_for(net, name):
    """A new holding of the class for the site's policy."""
    word = net.known_site(name).policy
    if word == "wait":
        return Waiting(net, name)
    if word == "skip":
        return Skipping(net, name)
    if word == "put":
        return Putting(net, name)
    if word == "shares":
        return Sharing(net, name)
    return Stamping(net, name)


def twin_of(holding):
    """A holding of its own that keeps and shows the same as one that holding_for made."""
    twin = holding_for(holding.wiring, holding.name)
    twin.adopt(holding)
    return twin
