"""Tables, and the rows that a home has made of one."""

from speaklast.errors import InvalidChange, InvalidTable
from speaklast.filters import truth_of
from speaklast.kinds import are_names, is_key, is_value, sequence_of


class Table:
    """The columns of a table, and what is asked of its rows."""

    MOST_COLUMNS = 4

    def __init__(self, *columns, key, fixed=(), unique=(), reuse=True):
        if not (are_names(columns) and len(columns) <= Table.MOST_COLUMNS):
            raise InvalidTable("columns")
        if not (are_chosen(key, columns) and 1 <= len(key) <= 2):
            raise InvalidTable("key")
        others = [column for column in columns if column not in key]
        if not are_chosen(fixed, others):
            raise InvalidTable("fixed")
        if not are_chosen(unique, others):
            raise InvalidTable("unique")
        self.columns = columns
        self.key = in_order_of(columns, key)
        self.fixed = in_order_of(columns, fixed)
        self.unique = in_order_of(columns, unique)
        self.reuse = reuse

    @classmethod
    def of(cls, columns, *, key, fixed=(), unique=(), reuse=True):
        """The table with these columns, a list or a tuple."""
        names = sequence_of(columns)
        return Table(*names, key=key, fixed=fixed, unique=unique, reuse=reuse)

    def is_row(self, thing):
        """Whether any value is a row of the table."""
        if not (isinstance(thing, tuple) and len(thing) == len(self.columns)):
            return False
        return all([is_value(value) or (value is None and column not in self.key)
                    for column, value in zip(self.columns, thing)])

    def key_of(self, row):
        """The key of a row."""
        return self.cut(row, self.key)

    def cut(self, row, columns):
        """The values of a row in these columns, in this order."""
        return tuple([row[self.columns.index(column)] for column in columns])

    def __eq__(self, other):
        return (isinstance(other, Table) and self.columns == other.columns and self.key == other.key
                and self.fixed == other.fixed and self.unique == other.unique and self.reuse == other.reuse)


class Truth:
    """The rows that a home has made, and the stamps of its changes."""

    def __init__(self, table, region):
        self.table = table
        self.region = region
        self.kept = {}
        # The key that has a value in a unique column, so that no other row need be looked at.
        self.owners = {}
        self.stamps = {}
        self.changes = 0

    def insert(self, row):
        """Makes a row for a key that has none."""
        return self.change("insert", row)

    def update(self, row):
        """Makes another row, or the same one, for a key that has one."""
        return self.change("update", row)

    def delete(self, key):
        """Takes the row of a key away."""
        return self.change("delete", key)

    def change(self, word, thing):
        """Makes the change that the word tells, or raises why it cannot be made."""
        reason = why_not(self, word, thing)
        if reason is not None:
            raise InvalidChange(reason)
        new = None if word == "delete" else thing
        key = thing if word == "delete" else self.table.key_of(thing)
        old = self.kept.get(key)
        self.write(key, old, new)
        self.changes += 1
        self.stamps[key] = self.changes
        return (key, old, new)

    def write(self, key, old, new):
        """Keeps the new row of a key, None for none, in place of the old one."""
        for place in unique_places(self.table, old):
            del self.owners[place]
        for place in unique_places(self.table, new):
            self.owners[place] = key
        if new is None:
            del self.kept[key]
        else:
            self.kept[key] = new

    @property
    def rows(self):
        """The tuple of all rows, ascending by key."""
        return rows_by_key(self.kept)

    @property
    def stamp(self):
        """How many changes were made."""
        return self.changes

    def row_of(self, key):
        """The row of a key, or None."""
        return self.kept[key] if key in self else None

    def stamp_of(self, key):
        """The stamp of the last change of a key, or 0."""
        return self.stamps.get(key, 0) if is_key(key, len(self.table.key)) else 0

    def copied(self):
        """Made rows of their own that are the same."""
        twin = Truth(self.table, self.region)
        twin.kept = {key: self.kept[key] for key in self.kept}
        twin.owners = {place: self.owners[place] for place in self.owners}
        twin.stamps = {key: self.stamps[key] for key in self.stamps}
        twin.changes = self.changes
        return twin

    def __len__(self):
        return len(self.kept)

    def __contains__(self, key):
        return is_key(key, len(self.table.key)) and key in self.kept


def are_chosen(names, columns):
    """Whether names is a tuple of distinct names that are among the columns."""
    if not (isinstance(names, tuple) and all([isinstance(name, str) and name in columns for name in names])):
        return False
    return len(set(names)) == len(names)


def in_order_of(columns, names):
    """The names, in the order of the columns."""
    return tuple([column for column in columns if column in names])


def rows_by_key(kept):
    """The tuple of the rows of a dict from keys to rows, ascending by key."""
    return tuple([kept[key] for key in sorted(list(kept))])


def unique_places(table, row):
    """The pairs (column, value) that no other row may have beside a row; none for no row."""
    if row is None:
        return []
    values = table.cut(row, table.unique)
    return [(column, value) for column, value in zip(table.unique, values) if value is not None]


def why_not(truth, word, thing):
    """The first reason for which a change cannot be made, or None."""
    table = truth.table
    if word == "delete":
        if not is_key(thing, len(table.key)):
            return "key"
        key = thing
    else:
        if not table.is_row(thing):
            return "row"
        key = table.key_of(thing)
    if truth_of(truth.region.tree, dict(zip(table.key, key))) is not True:
        return "region"
    if word == "insert":
        return why_not_inserted(truth, key, thing)
    if key not in truth:
        return "missing"
    return None if word == "delete" else why_not_updated(truth, key, thing)


def why_not_inserted(truth, key, row):
    """The first reason for which a row of the region cannot be inserted, or None."""
    if key in truth:
        return "present"
    # A key with a stamp and without a row was deleted before.
    if not truth.table.reuse and truth.stamp_of(key) > 0:
        return "again"
    return "unique" if is_taken(truth, key, row) else None


def why_not_updated(truth, key, row):
    """The first reason for which the row of a key that has one cannot be updated, or None."""
    table = truth.table
    if table.cut(row, table.fixed) != table.cut(truth.row_of(key), table.fixed):
        return "fixed"
    return "unique" if is_taken(truth, key, row) else None


def is_taken(truth, key, row):
    """Whether a row of another key has a value of this row in a unique column."""
    return any([truth.owners.get(place, key) != key for place in unique_places(truth.table, row)])
