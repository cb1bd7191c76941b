"""A slow run, written from the document's words: rows are dicts from columns to values, nothing is kept up to date."""


class Stop(Exception):
    """What the model answers in place of an error: the name of the error's class and its field."""


class Model:
    def __init__(self, net):
        self.net = net
        self.table = net.table
        self.feeds = {feed: net.feed(feed) for feed in net.feeds}
        self.sites = {site: net.site(site) for site in net.sites}
        self.where = {feed: net.feed(feed).where for feed in net.feeds}
        self.truth = {home: {} for home in net.homes}
        self.deleted = {home: set() for home in net.homes}
        self.stamp = {home: 0 for home in net.homes}
        self.shown = {site: {} for site in net.sites}
        self.shares = {site: {source: {} for source in ["", *net.into(site)]} for site in net.sites}
        self.kept = {site: {} for site in net.sites}
        self.sent = {feed: [] for feed in net.feeds}
        self.place = {feed: 0 for feed in net.feeds}
        self.floor = {feed: 0 for feed in net.feeds}

    # Rows and keys.

    def key(self, row):
        return tuple(row[column] for column in self.table.key)

    def as_row(self, values):
        return dict(zip(self.table.columns, values))

    def cut(self, row, site):
        return None if row is None else {column: row[column] for column in self.sites[site].columns}

    def told(self, row, site):
        return None if row is None else tuple(row[column] for column in self.sites[site].columns)

    def passes(self, feed, row):
        return row is not None and self.where[feed](row) is True

    def in_box(self, box, key):
        return box(dict(zip(self.table.key, key))) is True

    # Changes.

    def why_not(self, home, word, thing):
        table, made = self.table, self.truth[home]
        if word == "delete":
            if type(thing) is not tuple or len(thing) != len(table.key) or any(type(n) is not int for n in thing):
                return "key"
            key = thing
        else:
            if not table.is_row(thing):
                return "row"
            key = self.key(self.as_row(thing))
        if self.sites[home].home(dict(zip(table.key, key))) is not True:
            return "region"
        if word == "insert" and key in made:
            return "present"
        if word != "insert" and key not in made:
            return "missing"
        if word == "insert" and not table.reuse and key in self.deleted[home]:
            return "again"
        if word == "delete":
            return None
        row = self.as_row(thing)
        if word == "update" and any(row[column] != made[key][column] for column in table.fixed):
            return "fixed"
        if any(row[column] is not None and row[column] == made[other][column]
               for other in made if other != key for column in table.unique):
            return "unique"
        return None

    def make(self, home, word, thing):
        if home not in self.truth:
            raise Stop("region")
        reason = self.why_not(home, word, thing)
        if reason is not None:
            raise Stop(reason)
        new = None if word == "delete" else self.as_row(thing)
        key = thing if word == "delete" else self.key(new)
        old = self.truth[home].get(key)
        self.stamp[home] += 1
        if new is None:
            del self.truth[home][key]
            self.deleted[home].add(key)
        else:
            self.truth[home][key] = new
        steps = self.taken(home, "", None, (key, self.cut(new, home), self.stamp[home]))
        self.spread(home, steps, self.stamp[home], own=[(key, old, new)])
        return self.stamp[home]

    # Messages.

    def message(self, feed, step, stamp):
        key, old, new = step
        target = self.feeds[feed].target
        was, now = self.passes(feed, old), self.passes(feed, new)
        if self.sites[target].policy == "stamped":
            return ("row", stamp, self.cut(new, target)) if now else ("out", stamp, key)
        if now and not was:
            return ("insert", self.cut(new, target))
        if now and self.cut(new, target) != self.cut(old, target):
            return ("update", self.cut(new, target))
        return ("delete", key) if was and not now else None

    def spread(self, site, steps, stamp, own=()):
        for feed in self.net.out_of(site):
            for step in own if self.feeds[feed].own else steps:
                message = self.message(feed, step, stamp)
                if message is not None:
                    self.sent[feed].append(message)

    def blocked(self, feed):
        """Whether the next message cannot be written by a site that waits."""
        target = self.feeds[feed].target
        word, thing = self.sent[feed][self.place[feed]][:2]
        return self.sites[target].policy == "wait" and self.hinders(target, word, thing)

    def hinders(self, site, word, thing):
        shown = self.shown[site]
        if word == "delete":
            return thing not in shown
        return (self.key(thing) in shown) is (word == "insert") or bool(self.clashes(site, thing))

    def clashes(self, site, row):
        return sorted(key for key, other in self.shown[site].items() if key != self.key(row) and any(
            column in row and row[column] is not None and row[column] == other[column] for column in self.table.unique))

    def waits(self, feed):
        return self.place[feed] < len(self.sent[feed]) and self.blocked(feed)

    def deliver(self, feed):
        if self.place[feed] == len(self.sent[feed]):
            raise Stop("pending")
        if self.blocked(feed):
            raise Stop("blocked")
        message = self.sent[feed][self.place[feed]]
        self.place[feed] += 1
        target = self.feeds[feed].target
        steps = self.taken(target, feed, message, None)
        self.spread(target, steps, message[1])
        return tuple((key, self.told(old, target), self.told(new, target)) for key, old, new in steps)

    def taken(self, site, source, message, made):
        """The steps at a site behind a message of a feed, or behind a made change (key, new, stamp)."""
        policy = self.sites[site].policy
        if policy == "stamped":
            return self.taken_stamped(site, message, made)
        if made is not None:
            word, thing = ("delete", made[0]) if made[1] is None else ("put", made[1])
        else:
            word, thing = message[:2]
        if word == "replace":
            return self.replaced(site, thing, message[2])
        if policy == "skip" and made is None and self.hinders(site, word, thing):
            return []
        key = thing if word == "delete" else self.key(thing)
        row = None if word == "delete" else thing
        if policy == "shares":
            self.shares[site][source][key] = row
            rows = [self.shares[site][name].get(key) for name in ["", *self.net.into(site)]]
            return self.write(site, key, ([one for one in rows if one is not None] + [None])[0])
        return self.put(site, key, row)

    def put(self, site, key, row):
        steps = []
        for other in self.clashes(site, row) if row is not None else ():
            steps += self.write(site, other, None)
        return steps + self.write(site, key, row)

    def write(self, site, key, row):
        old = self.shown[site].pop(key, None)
        if row is not None:
            self.shown[site][key] = row
        return [] if old == row else [(key, old, row)]

    def taken_stamped(self, site, message, made):
        if made is not None:
            key, row, stamp = made
        else:
            word, stamp, thing = message
            key, row = (self.key(thing), thing) if word == "row" else (thing, None)
            kept = self.kept[site].get(key, 0)
            if not (stamp > kept or (stamp == kept and row is not None and key not in self.shown[site])):
                return []
        self.kept[site][key] = stamp
        old = self.shown[site].get(key)
        self.write(site, key, row)
        return [(key, old, row)]

    def replaced(self, site, box, rows):
        steps = []
        for key in sorted(self.shown[site]):
            if self.in_box(box, key) and key not in [self.key(row) for row in rows]:
                steps += self.write(site, key, None)
        for row in rows:
            steps += self.put(site, self.key(row), row)
        return steps

    # Falls, steps and questions.

    def fall(self, feed, back):
        if not 1 <= back <= self.place[feed] - self.floor[feed]:
            raise Stop("fall")
        self.place[feed] -= back

    def step(self, word, feed, box):
        known = self.feeds[feed]
        source = self.truth[known.source] if known.own else self.shown[known.source]
        old = self.where[feed]
        if word in ("leave", "sweep"):
            self.where[feed] = old & ~box
        if word == "copy":
            self.where[feed] = old | box
        if word == "sweep":
            for key in sorted(source):
                if old(source[key]) is True and self.in_box(box, key):
                    self.sent[feed].append(("delete", key))
        if word in ("copy", "again"):
            rows = [self.cut(source[key], known.target) for key in sorted(source)
                    if self.passes(feed, source[key]) and self.in_box(box, key)]
            self.sent[feed].append(("replace", box, rows))

    def rest(self, feed):
        if self.place[feed] < len(self.sent[feed]):
            raise Stop("pending")
        self.floor[feed] = len(self.sent[feed])

    def pending(self, feed):
        target = self.feeds[feed].target
        return tuple(tuple(self.part(part, target) for part in message)
                     for message in self.sent[feed][self.place[feed]:])

    def part(self, part, target):
        if isinstance(part, list):
            return tuple(self.told(row, target) for row in part)
        return self.told(part, target) if isinstance(part, dict) else part

    def held(self, site):
        return tuple(self.told(self.shown[site][key], site) for key in sorted(self.shown[site]))

    def made(self, site):
        rows = self.truth.get(site, {})
        return tuple(tuple(rows[key][column] for column in self.table.columns) for key in sorted(rows))

    def wanted(self, site):
        found = {}
        for home, rows in self.truth.items():
            for key, row in rows.items():
                reached = {home}
                for _ in self.net.sites:
                    for feed in self.net.feeds:
                        known = self.feeds[feed]
                        told = known.source == home if known.own else known.source in reached
                        if told and self.passes(feed, row):
                            reached.add(known.target)
                if site in reached:
                    found[key] = self.told(row, site)
        return tuple(found[key] for key in sorted(found))
