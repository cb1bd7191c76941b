"""Points 2, 4, 6, 9, 19 and 20: tables and made rows."""

import random
import unittest

from chances import chance_row, chance_table
from examples import ALL, HIGH, LOW, NEVER
from speaklast.errors import InvalidChange, InvalidTable
from speaklast.filters import Filter
from speaklast.ranges import Ranges
from speaklast.tables import Table, Truth
from values import any_values

FOUR = Table("b", "k", "a", "l", key=("l", "k"), fixed=("a",), unique=("a", "b"), reuse=False)


def asking(test, reason, make):
    with test.assertRaises(InvalidTable) as caught:
        make()
    test.assertEqual(caught.exception.reason, reason)


class MakingTest(unittest.TestCase):
    """Tables, promise 2."""

    def test_attributes_and_defaults(self):
        self.assertEqual((FOUR.columns, FOUR.key, FOUR.fixed, FOUR.unique, FOUR.reuse),
                         (("b", "k", "a", "l"), ("k", "l"), ("a",), ("b", "a"), False))
        plain = Table("k", key=("k",))
        self.assertEqual((plain.columns, plain.key, plain.fixed, plain.unique), (("k",), ("k",), (), ()))
        self.assertIs(plain.reuse, True)
        self.assertEqual(Table.MOST_COLUMNS, 4)

    def test_of_takes_lists_and_tuples_by_position_and_by_name(self):
        wanted = Table("k", "r", key=("k",), fixed=("r",), unique=("r",), reuse=False)
        for columns in (["k", "r"], ("k", "r")):
            self.assertEqual(Table.of(columns, key=("k",), fixed=("r",), unique=("r",), reuse=False), wanted)
            self.assertEqual(Table.of(columns=columns, key=("k",)), Table("k", "r", key=("k",)))
            self.assertIs(Table.of(columns, key=("k",)).reuse, True)

    def test_a_list_that_is_changed_later_changes_nothing(self):
        columns = ["k", "r"]
        table = Table.of(columns, key=("k",))
        columns.append("s")
        self.assertEqual(table.columns, ("k", "r"))

    def test_wrong_columns(self):
        for columns in ((), ("k", "k"), ("k", "a", "b", "c", "d"), ("k", ""), ("k", "K"), ("k", "r1"), ("k", "a" * 9),
                        ("k", "a b"), ("k", "r\n")):
            asking(self, "columns", lambda: Table(*columns, key=("k",)))
            asking(self, "columns", lambda: Table.of(list(columns), key=("k",)))
        self.assertEqual(Table("k", "a" * 8, key=("k",)).columns, ("k", "a" * 8))

    def test_any_values_as_columns(self):
        for value in any_values():
            asking(self, "columns", lambda: Table("k", value, key=("k",)))
            asking(self, "columns", lambda: Table.of(["k", value], key=("k",)))
            asking(self, "columns", lambda: Table.of(value, key=("k",)))
        asking(self, "columns", lambda: Table.of("k", key=("k",)))
        asking(self, "columns", lambda: Table.of({"k": 1}, key=("k",)))

    def test_wrong_keys(self):
        for key in ((), ("k", "k"), ("x",), ("k", "x"), ("a", "b", "k")):
            asking(self, "key", lambda: Table("k", "a", "b", key=key))

    def test_wrong_fixed_and_unique_columns(self):
        for names in (("k",), ("x",), ("a", "a"), ("a", "k")):
            asking(self, "fixed", lambda: Table("k", "a", "b", key=("k",), fixed=names))
            asking(self, "unique", lambda: Table("k", "a", "b", key=("k",), unique=names))

    def test_the_first_reason_is_told(self):
        asking(self, "columns", lambda: Table("k", "k", key=(), fixed=("x",), unique=("x",)))
        asking(self, "key", lambda: Table("k", "a", key=(), fixed=("x",), unique=("x",)))
        asking(self, "fixed", lambda: Table("k", "a", key=("k",), fixed=("x",), unique=("x",)))

    def test_equal_exactly_if_all_five_are(self):
        def made(**more):
            given = {"key": ("k",), "fixed": ("r",), "unique": ("u",), "reuse": True}
            given.update(more)
            return Table("k", "r", "u", **given)
        self.assertEqual(made(), made())
        self.assertEqual(made(fixed=("u", "r")), made(fixed=("r", "u")))
        others = [made(key=("k", "r"), fixed=()), made(fixed=()), made(unique=("r", "u")), made(reuse=False),
                  Table("k", "u", "r", key=("k",), fixed=("r",), unique=("u",))]
        for other in others + any_values():
            self.assertIs(made() == other, False)
            self.assertIs(made() != other, True)


class RowsOfTablesTest(unittest.TestCase):
    """Tables, promise 2: is_row, key_of, cut."""

    def test_rows(self):
        table = Table("r", "k", key=("k",))
        for row in ((1, 2), (None, 2), (10 ** 30 - 1, -(10 ** 30) + 1), (0, 0)):
            self.assertIs(table.is_row(row), True)
            self.assertIs(table.is_row(thing=row), True)
        for thing in ((1, None), (None, None), [1, 2], (1,), (1, 2, 3), (True, 2), (1, False), (10 ** 30, 1),
                      (1, -(10 ** 30)), ("1", 2), (1, (2,)), ()):
            self.assertIs(table.is_row(thing), False)

    def test_any_value_is_a_row_or_not(self):
        for value in any_values():
            self.assertIs(FOUR.is_row(value), False)
            self.assertIs(Table("k", "r", key=("k",)).is_row((1, value)),
                          value is None or type(value) is int and abs(value) < 10 ** 30)
        self.assertIs(Table("k", key=("k",)).is_row((1,)), True)

    def test_keys_and_cuts(self):
        row = (1, 2, 3, 4)
        self.assertEqual(FOUR.key_of(row), (2, 4))
        self.assertEqual(FOUR.key_of(row=row), (2, 4))
        self.assertEqual(FOUR.cut(row, ("l", "b")), (4, 1))
        self.assertEqual(FOUR.cut(row=row, columns=("a",)), (3,))
        self.assertEqual(FOUR.cut(row, ()), ())


class TruthTest(unittest.TestCase):
    """Made rows, promise 3."""

    def refused(self, reason, change, thing):
        with self.assertRaises(InvalidChange) as caught:
            change(thing)
        self.assertEqual(caught.exception.reason, reason)

    def test_example_of_the_document(self):
        truth = Truth(Table("k", "r", "u", key=("k",), fixed=("r",), unique=("u",)), Filter.always())
        self.assertEqual(
            [truth.insert((1, 1, 5)), truth.insert((2, 1, None)), truth.update((1, 1, 6)), truth.delete((2,)),
             truth.rows, truth.stamp],
            [((1,), None, (1, 1, 5)), ((2,), None, (2, 1, None)), ((1,), (1, 1, 5), (1, 1, 6)),
             ((2,), (2, 1, None), None), ((1, 1, 6),), 4])

    def test_questions(self):
        truth = Truth(table=FOUR, region=ALL)
        self.assertEqual((truth.rows, truth.stamp, len(truth), truth.row_of((2, 4)), truth.stamp_of((2, 4))),
                         ((), 0, 0, None, 0))
        truth.insert((1, 2, 3, 4))
        truth.insert((2, -2, 4, 4))
        truth.update((5, 2, 3, 4))
        self.assertEqual(truth.rows, ((2, -2, 4, 4), (5, 2, 3, 4)))
        self.assertEqual((truth.stamp, len(truth)), (3, 2))
        self.assertEqual((truth.row_of(key=(2, 4)), truth.stamp_of(key=(2, 4)), truth.stamp_of((-2, 4))),
                         ((5, 2, 3, 4), 3, 2))
        truth.delete((-2, 4))
        self.assertEqual((truth.row_of((-2, 4)), truth.stamp_of((-2, 4)), len(truth)), (None, 4, 1))

    def test_in_for_any_value(self):
        truth = Truth(Table("k", "r", key=("k",)), ALL)
        truth.insert((1, None))
        self.assertIs((1,) in truth, True)
        for value in any_values() + [(True,), [1], (1, None), (2,), (1, 1), ((1,),)]:
            self.assertIs(value in truth, value == (1,) and type(value) is tuple and type(value[0]) is int)
        self.assertIsNone(truth.row_of((True,)))

    def test_an_update_to_the_equal_row_is_a_change(self):
        truth = Truth(SOLE_TABLE, ALL)
        truth.insert((1, 7))
        self.assertEqual(truth.update((1, 7)), ((1,), (1, 7), (1, 7)))
        self.assertEqual((truth.stamp, truth.stamp_of((1,))), (2, 2))

    def test_wrong_things(self):
        truth = Truth(Table("k", "r", key=("k",)), NEVER)
        for value in any_values() + [(1,), (None, 1), (True, 1), [1, 1], (10 ** 30, 1)]:
            self.refused("row", truth.insert, value)
            self.refused("row", truth.update, value)
        for value in any_values() + [(1, 1), (None,), (True,), [1], (10 ** 30,), 1]:
            if value != (1,) or type(value) is not tuple:
                self.refused("key", truth.delete, value)
        self.refused("region", lambda key: truth.delete(key=key), (1,))

    def test_reasons(self):
        table = Table("k", "r", "u", key=("k",), fixed=("r",), unique=("u",), reuse=False)
        truth = Truth(table, LOW)
        truth.insert((1, 1, 5))
        truth.insert((2, 1, 6))
        truth.delete((2,))
        truth.insert((3, 1, 7))
        for reason, change, thing in (
                ("region", truth.insert, (10, 1, 1)), ("region", truth.update, (10, 1, 1)),
                ("region", truth.delete, (10,)), ("present", truth.insert, (1, 2, 7)),
                ("missing", truth.update, (2, 2, 7)), ("missing", truth.delete, (2,)), ("missing", truth.delete, (4,)),
                ("again", truth.insert, (2, 1, 7)), ("fixed", truth.update, (1, 2, 7)),
                ("fixed", truth.update, (1, None, 7)), ("unique", truth.update, (1, 1, 7)),
                ("unique", truth.insert, (4, 1, 7)), ("row", truth.insert, (1, 1)), ("key", truth.delete, (1, 1))):
            self.refused(reason, change, thing)
            self.assertEqual((truth.rows, truth.stamp, truth.stamp_of((1,))), (((1, 1, 5), (3, 1, 7)), 4, 1))

    def test_unique_values_pass_from_key_to_key(self):
        truth = Truth(SOLE_TABLE, ALL)
        truth.insert((1, 5))
        truth.update((1, 5))
        self.refused("unique", truth.insert, (2, 5))
        truth.update((1, 6))
        truth.insert((2, 5))
        truth.delete((2,))
        truth.insert((3, 5))
        self.refused("unique", truth.update, (1, 5))
        self.assertEqual(truth.rows, ((1, 6), (3, 5)))

    def test_none_clashes_with_nothing(self):
        truth = Truth(SOLE_TABLE, ALL)
        for key in (1, 2, 3):
            truth.insert((key, None))
        truth.update((1, None))
        self.assertEqual(len(truth), 3)

    def test_keys_may_come_again_or_once(self):
        for reuse in (True, False):
            truth = Truth(Table("k", key=("k",), reuse=reuse), ALL)
            truth.insert((1,))
            truth.delete((1,))
            if reuse:
                self.assertEqual(truth.insert((1,)), ((1,), None, (1,)))
            else:
                self.refused("again", truth.insert, (1,))

    def test_regions_let_in_just_the_keys_that_pass(self):
        square = Filter.within("k", Ranges.of(1)) & ~Filter.within("l", Ranges.of(2)) | Filter.missing("k")
        table = Table("r", "l", "k", key=("k", "l"))
        for region in (square, ALL, NEVER, HIGH):
            truth = Truth(table, region)
            for k in (0, 1, 2, 10):
                for l in (1, 2, 3):
                    if region({"k": k, "l": l}):
                        self.assertEqual(truth.insert((None, l, k))[0], (l, k))
                    else:
                        self.refused("region", truth.insert, (None, l, k))

    def test_histories_by_chance(self):
        chance = random.Random(7)
        for _ in range(150):
            table = chance_table(chance)
            truth, plain = Truth(table, ALL), PlainTruth(table)
            for _ in range(40):
                row, word = chance_row(chance, table), chance.choice(("insert", "update", "delete"))
                thing = table.key_of(row) if word == "delete" else row
                wanted = plain.change(word, thing)
                if isinstance(wanted, str):
                    self.refused(wanted, getattr(truth, word), thing)
                else:
                    self.assertEqual(getattr(truth, word)(thing), wanted)
                self.assertEqual(truth.rows, tuple(plain.rows[key] for key in sorted(plain.rows)))
                self.assertEqual(len(truth), len(plain.rows))


SOLE_TABLE = Table("k", "u", key=("k",), unique=("u",))


class PlainTruth:
    """The words of point 20, for the region of all keys and things of the right form."""

    def __init__(self, table):
        self.table, self.rows, self.gone = table, {}, set()

    def change(self, word, thing):
        table = self.table
        key = thing if word == "delete" else table.key_of(thing)
        old, new = self.rows.get(key), None if word == "delete" else thing
        if word == "insert" and old is not None:
            return "present"
        if word != "insert" and old is None:
            return "missing"
        if word == "insert" and key in self.gone and not table.reuse:
            return "again"
        if word == "update" and table.cut(old, table.fixed) != table.cut(new, table.fixed):
            return "fixed"
        for column in table.unique if new is not None else ():
            taken = [table.cut(row, (column,)) for other, row in self.rows.items() if other != key]
            if table.cut(new, (column,)) in [value for value in taken if value != (None,)]:
                return "unique"
        self.rows.pop(key, None)
        if new is None:
            self.gone.add(key)
        else:
            self.rows[key] = new
        return (key, old, new)


class NamesTest(unittest.TestCase):
    """Promise 1: sets, filters, tables and made rows take their arguments by name."""

    def test_sets_and_filters(self):
        ranges = Ranges.between(low=1, high=3)
        self.assertEqual(ranges.sample(count=2), [1, 2])
        self.assertIs(ranges.is_within(b=Ranges.full()), True)
        within = Filter.within(column="k", ranges=ranges)
        self.assertIs(within(values={"k": 2}), True)
        self.assertIs(Filter.missing(column="k")(values={"k": None}), True)

    def test_tables_and_made_rows(self):
        table = Table.of(columns=["k", "r"], key=("k",), fixed=(), unique=(), reuse=True)
        self.assertIs(table.is_row(thing=(1, 1)), True)
        self.assertEqual((table.key_of(row=(1, 2)), table.cut(row=(1, 2), columns=("r",))), ((1,), (2,)))
        truth = Truth(table=table, region=ALL)
        truth.insert((1, 2))
        self.assertEqual((truth.row_of(key=(1,)), truth.stamp_of(key=(1,))), ((1, 2), 1))
        self.assertEqual(truth.delete(key=(1,)), ((1,), (1, 2), None))


if __name__ == "__main__":
    unittest.main()
