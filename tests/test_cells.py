"""Points 2, 11, 22 and 25: stretches and cells."""

import itertools
import random
import unittest

from chances import chance_net, chance_row
from examples import ALL, NET, NEVER, ONES, TABLE, WIDE
from speaklast.cells import Grid
from speaklast.errors import TooMany
from speaklast.feeds import Feed
from speaklast.filters import Filter
from speaklast.nets import Net
from speaklast.ranges import Ranges
from speaklast.sites import Site
from speaklast.tables import Table
from values import any_values


def net_with(table, *filters, region=ALL):
    """A net with a feed for each filter."""
    feeds = [Feed("f" + chr(97 + at), "h", "c", where=where) for at, where in enumerate(filters)]
    return Net(table, Site("h", *table.columns, home=region), Site("c", *table.columns), *feeds)


def cutting(column, many):
    """A filter that cuts a column into this number of stretches."""
    ranges = Ranges.of(*range(0, 2 * ((many - 1) // 2), 2))
    return Filter.within(column, ranges if many % 2 else ranges | Ranges.between(10 ** 4, None))


def wide_net(keys, values):
    """A net with this number of stretches of k and of r, so with keys * (values + 1) cells."""
    return net_with(TABLE, cutting("k", keys) & cutting("r", values))


class GridTest(unittest.TestCase):
    """Promise 9."""

    def test_example_of_the_document(self):
        grid = Grid(NET)
        self.assertEqual([grid.size, grid.stretches("r"), grid.cell_of((7, 1)), grid.sample((0, 2)),
                          grid.sample((0, 3), other=True)],
                         [4, ((None, 0), (1, 1), (2, None)), (0, 1), (0, 2), (1, None)])

    def test_stretches_are_cut_at_the_ends_of_all_parts(self):
        number = Filter.within("k", Ranges.of(3, 5)) & ~Filter.within("k", Ranges.between(None, -1))
        net = net_with(TABLE, number | number, Filter.within("r", Ranges.full()) & NEVER, Filter.missing("r"),
                       Filter.within("r", Ranges.empty()), region=Filter.within("k", Ranges.between(-7, 4)))
        grid = Grid(net)
        self.assertEqual(grid.stretches(column="k"), ((None, -8), (-7, -1), (0, 2), (3, 3), (4, 4), (5, 5), (6, None)))
        self.assertEqual(grid.stretches("r"), ((None, None),))
        self.assertEqual((grid.size, len(list(grid.cells()))), (14, 14))

    def test_cuts_that_change_nothing_in_all_still_cut(self):
        both = Filter.within("k", Ranges.between(0, 4)) | Filter.within("k", Ranges.between(5, 9))
        self.assertEqual(Grid(net_with(TABLE, both)).stretches("k"), ((None, -1), (0, 4), (5, 9), (10, None)))
        self.assertEqual(Grid(net_with(TABLE, Filter.within("k", Ranges.of(1)) & NEVER)).stretches("k"),
                         ((None, 0), (1, 1), (2, None)))

    def test_cells_are_all_and_ascending(self):
        grid = Grid(net=WIDE)
        cells = list(grid.cells())
        # a: below 0, 0 to 5, above, None; k: to 9, from 10; r: below 1, 1, above, None; l: all.
        self.assertEqual((grid.size, cells), (32, sorted(itertools.product(range(4), range(2), range(4), range(1)))))

    def test_cells_of_rows(self):
        grid = Grid(WIDE)
        self.assertEqual(grid.cell_of((None, 9, None, -50)), (3, 0, 3, 0))
        self.assertEqual(grid.cell_of(row=(5, 10, 1, 10 ** 29)), (1, 1, 1, 0))
        self.assertEqual(grid.cell_of((-(10 ** 29), -(10 ** 29), 2, 0)), (0, 0, 2, 0))

    def test_in_for_any_value(self):
        grid = Grid(NET)
        for cell in ((0, 0), (0, 3)):
            self.assertIs(cell in grid, True)
        for value in any_values() + [(0, 4), (1, 0), (-1, 0), (0, -1), [0, 0], (0,), (0, 0, 0), (False, 0), (0, True),
                                     (0, None), ("0", 0)]:
            self.assertIs(value in grid, False)

    def test_samples(self):
        parts = Ranges.between(-9, -4) | Ranges.between(2, 3) | Ranges.of(5)
        grid = Grid(net_with(TABLE, Filter.within("k", parts)))
        self.assertEqual([grid.sample((place, 0)) for place in range(7)],
                         [(-10, 0), (-4, 0), (0, 0), (2, 0), (4, 0), (5, 0), (6, 0)])
        self.assertEqual([grid.sample(cell=(place, 1), other=True) for place in range(7)],
                         [(-11, None), (-5, None), (1, None), (3, None), None, None, (7, None)])

    def test_other_samples_of_two_key_columns(self):
        table = Table("l", "r", "k", key=("k", "l"))
        grid = Grid(net_with(table, Filter.within("k", Ranges.of(1)) & Filter.within("l", Ranges.of(1)) & ONES))
        self.assertEqual([grid.sample((0, 0, 0), other=True), grid.sample((1, 0, 0), other=True),
                          grid.sample((0, 3, 1), other=True), grid.sample((1, 1, 1), other=True)],
                         [(-1, 0, 0), (1, 0, -1), (-1, None, 1), None])

    def test_up_to_the_bound(self):
        self.assertEqual(Grid.MOST, 1500)
        for keys, values in ((50, 29), (6, 249), (750, 1), (1, 1499)):
            grid = Grid(wide_net(keys, values))
            self.assertEqual((len(grid.stretches("k")), len(grid.stretches("r"))), (keys, values))
            self.assertEqual((grid.size, len(list(grid.cells()))), (1500, 1500))

    def test_too_many(self):
        for keys, values in ((19, 78), (2, 750), (1000, 1001)):
            with self.assertRaises(TooMany) as caught:
                Grid(wide_net(keys, values))
            self.assertEqual(caught.exception.count, keys * (values + 1))
        table = Table("k", "l", key=("k", "l"))
        self.assertEqual(Grid(net_with(table, cutting("k", 50), cutting("l", 30))).size, 1500)
        with self.assertRaises(TooMany) as caught:
            Grid(net_with(table, cutting("k", 19), cutting("l", 79)))
        self.assertEqual(caught.exception.count, 1501)

    def test_a_grid_of_four_columns(self):
        table = Table("a", "b", "c", "d", key=("a",))
        grid = Grid(net_with(table, ALL))
        self.assertEqual((grid.size, list(grid.cells())), (8, [(0, *rest) for rest in itertools.product((0, 1), repeat=3)]))
        self.assertEqual((grid.sample((0, 1, 0, 1)), grid.sample((0, 1, 0, 1), other=True)), ((0, None, 0, None), (1, None, 0, None)))

    def test_by_chance(self):
        chance = random.Random(15)
        for _ in range(120):
            net = chance_net(chance)
            grid = Grid(net)
            cells = list(grid.cells())
            self.assertEqual((cells, len(cells)), (sorted(set(cells)), grid.size))
            wheres = [net.feed(feed).where for feed in net.feeds] + [net.site(home).home for home in net.homes]
            for cell in cells:
                self.assertIn(cell, grid)
                rows = [row for row in (grid.sample(cell), grid.sample(cell, other=True)) if row is not None]
                self.assertEqual(len({net.table.key_of(row) for row in rows}), len(rows))
                for row in rows:
                    self.assertTrue(net.table.is_row(row))
                    self.assertEqual(grid.cell_of(row), cell)
            for _ in range(20):
                row = chance_row(chance, net.table)
                cell = grid.cell_of(row)
                self.assertIn(cell, cells)
                for where in wheres:
                    values = [dict(zip(net.table.columns, one)) for one in (row, grid.sample(cell))]
                    self.assertIs(where(values[0]), where(values[1]))


if __name__ == "__main__":
    unittest.main()
