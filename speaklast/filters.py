"""Filters: conditions on a row that are true, false or unknown (None)."""

from speaklast.ranges import in_parts


class Filter:
    """A condition; made by within, missing, always and never, and by `&`, `|` and `~`."""

    def __init__(self, tree, columns):
        self.tree = tree
        self.columns = columns

    @classmethod
    def within(cls, column, ranges):
        """True for the numbers of ranges, false for other integers, unknown for None."""
        return cls(("within", column, ranges.parts), (column,))

    @classmethod
    def missing(cls, column):
        """True for None, false for integers."""
        return cls(("missing", column), (column,))

    @classmethod
    def always(cls):
        """True for each row."""
        return cls(("always",), ())

    @classmethod
    def never(cls):
        """False for each row."""
        return cls(("never",), ())

    def __and__(self, other):
        return Filter(("and", self.tree, other.tree), all_columns(self.columns, other.columns))

    def __or__(self, other):
        return Filter(("or", self.tree, other.tree), all_columns(self.columns, other.columns))

    def __invert__(self):
        return Filter(("not", self.tree), self.columns)

    def __eq__(self, other):
        return isinstance(other, Filter) and self.tree == other.tree

    def __call__(self, values):
        return truth_of(self.tree, values)


def all_columns(one, other):
    """The ascending tuple of the columns of both tuples."""
    return tuple(sorted(set(one + other)))


def truth_of(tree, values):
    """What the filter with this tree says of the values: True, False or None."""
    word = tree[0]
    if word == "within":
        return truth_within(values[tree[1]], tree[2])
    if word == "missing":
        return values[tree[1]] is None
    if word == "and":
        return both(truth_of(tree[1], values), truth_of(tree[2], values))
    if word == "or":
        return either(truth_of(tree[1], values), truth_of(tree[2], values))
    if word == "not":
        return negated(truth_of(tree[1], values))
    return word == "always"


def truth_within(value, parts):
    """Whether a value is in the parts; unknown for None."""
    return None if value is None else in_parts(parts, value)


def both(one, other):
    """The `&` of two truths."""
    if one is False or other is False:
        return False
    if one is None or other is None:
        return None
    return True


def either(one, other):
    """The `|` of two truths."""
    if one is True or other is True:
        return True
    if one is None or other is None:
        return None
    return False


def negated(truth):
    """The `~` of a truth."""
    return None if truth is None else not truth
