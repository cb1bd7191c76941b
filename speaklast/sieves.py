"""Sets of cells, each kept as one integer: bit by bit, whether the cell is in the set.

So a filter is asked about all cells of a grid at once.
"""

from speaklast.ranges import in_parts


class Sieve:
    """Tells which cells of a grid pass filters, and which cells a set has."""

    def __init__(self, grid):
        self.in_order = list(grid.cells())
        self.whole = (1 << len(self.in_order)) - 1
        self.stretches_on = {column: grid.stretches(column) for column in grid.columns}
        self.sets = {}
        for at, cell in enumerate(self.in_order):
            for column, place in zip(grid.columns, cell):
                self.sets[(column, place)] = self.sets.get((column, place), 0) | (1 << at)

    def passing(self, tree):
        """The set of the cells whose rows pass the filter with this tree."""
        passed, _ = self.true_and_false(tree)
        return passed

    def true_and_false(self, tree):
        """The set of the cells for which a tree is true, and of those for which it is false."""
        word = tree[0]
        if word == "within":
            return self.condition(tree[1], tree[2])
        if word == "missing":
            missing = self.sets.get((tree[1], len(self.stretches_on[tree[1]])), 0)
            return (missing, self.whole - missing)
        if word == "always":
            return (self.whole, 0)
        if word == "never":
            return (0, self.whole)
        passed, failed = self.true_and_false(tree[1])
        if word == "not":
            return (failed, passed)
        also_passed, also_failed = self.true_and_false(tree[2])
        if word == "and":
            return (passed & also_passed, failed | also_failed)
        return (passed | also_passed, failed & also_failed)

    def condition(self, column, parts):
        """What true_and_false tells of a condition; the cells with None are in neither set."""
        passed = 0
        failed = 0
        for place, (low, high) in enumerate(self.stretches_on[column]):
            # No part ends within a stretch: so any number of it tells for all.
            number = low if low is not None else high if high is not None else 0
            if in_parts(parts, number):
                passed = passed | self.sets[(column, place)]
            else:
                failed = failed | self.sets[(column, place)]
        return (passed, failed)

    def cells_in(self, bits):
        """The ascending tuple of the cells of a set."""
        return tuple([cell for at, cell in enumerate(self.in_order) if (bits >> at) & 1])
