"""Lines: what a feed of a net needs to send rows of its source."""

from speaklast.filters import truth_of


class Line:
    """A feed beside the sites at its ends; rows are those of its source."""

    def __init__(self, table, feed, source, target):
        self.name = feed.name
        self.source = feed.source
        self.target = feed.target
        self.own = feed.own
        self.tree = feed.where.tree
        self.stamped = target.policy == "stamped"
        self.columns = source.columns
        self.spots = [source.columns.index(column) for column in target.columns]
        self.key_spots = [source.columns.index(column) for column in table.key]

    def passes(self, row):
        """Whether a row passes the filter; None does not."""
        return row is not None and self.lets_through(dict(zip(self.columns, row)))

    def lets_through(self, values):
        """Whether the filter is true for a row, told as a dict from columns to values."""
        return truth_of(self.tree, values) is True

    def cut_down(self, row):
        """The row in the columns of the target."""
        return tuple([row[spot] for spot in self.spots])

    def key_in(self, row):
        """The key of a row."""
        return tuple([row[spot] for spot in self.key_spots])
