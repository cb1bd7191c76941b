"""Cells: the rows of a table, grouped so that all rows of a cell pass the same filters."""

from speaklast.errors import TooMany
from speaklast.kinds import is_number
from speaklast.ranges import Ranges
from speaklast.stretches import cuts_on, place_among, stretches_between


class Grid:
    """The cells of a net; raises TooMany if there are more than MOST."""

    MOST = 1500

    def __init__(self, net):
        trees = net.trees()
        self.columns = net.table.columns
        self.key = net.table.key
        self.cuts = {column: cuts_on(trees, column) for column in self.columns}
        self.parted = {column: stretches_between(self.cuts[column]) for column in self.columns}
        size = 1
        for column in self.columns:
            size = size * self.places(column)
        if size > Grid.MOST:
            raise TooMany(size)
        self.size = size

    def places(self, column):
        """How many numbers a cell can have for a column: one for each stretch, and one for None outside of the key."""
        many = len(self.parted[column])
        return many if column in self.key else many + 1

    def stretches(self, column):
        """The tuple of the stretches of a column, ascending."""
        return self.parted[column]

    def cell_of(self, row):
        """The cell of a row of the table."""
        return tuple([self.place_of_value(column, value) for column, value in zip(self.columns, row)])

    def place_of_value(self, column, value):
        """The index of the stretch of a value; the number of the stretches for None."""
        return len(self.parted[column]) if value is None else place_among(self.cuts[column], value)

    def cells(self):
        """All cells, ascending."""
        found = [()]
        for column in self.columns:
            found = [cell + (place,) for cell in found for place in range(self.places(column))]
        for cell in found:
            yield cell

    def __contains__(self, cell):
        if not (isinstance(cell, tuple) and len(cell) == len(self.columns)):
            return False
        return all([is_number(place) and 0 <= place < self.places(column)
                    for column, place in zip(self.columns, cell)])

    def sample(self, cell, *, other=False):
        """The row of the cell with the first number of each stretch; with other a row of another key, or None."""
        choices = [self.first_values(column, place) for column, place in zip(self.columns, cell)]
        row = tuple([values[0] for values in choices])
        if not other:
            return row
        for at, values in enumerate(choices):
            if self.columns[at] in self.key and len(values) > 1:
                return row[:at] + (values[1],) + row[at + 1:]
        return None

    def first_values(self, column, place):
        """The list of the first two values, or the only one, that a place in a column stands for."""
        if place == len(self.parted[column]):
            return [None]
        low, high = self.parted[column][place]
        return Ranges.between(low, high).sample(2)

    def has_unlike_keys(self, cell):
        """Whether the cell has rows of unlike keys."""
        return any([column in self.key and is_wide(self.parted[column][place])
                    for column, place in zip(self.columns, cell)])


def is_wide(stretch):
    """Whether a stretch has two numbers or more."""
    low, high = stretch
    return low is None or high is None or low < high
