"""Points 10, 13, 23 and 33: holdings."""

import random
import unittest

from chances import chance_row
from examples import ALL, HIGH, LOW, NET, NEVER, SOLE, TABLE
from model import Model
from speaklast.errors import Blocked, UnknownName
from speaklast.feeds import Feed
from speaklast.filters import Filter
from speaklast.nets import Net
from speaklast.policies import Holding, Putting, Sharing, Skipping, Stamping, Waiting, holding_for
from speaklast.ranges import Ranges
from speaklast.sites import Site
from speaklast.tables import Table
from values import any_values, no_names

CLASSES = {"wait": Waiting, "skip": Skipping, "put": Putting, "shares": Sharing, "stamped": Stamping}
# A site with two unique columns, in another order than the table's.
PAIRS = Net(Table("k", "u", "v", key=("k",), unique=("u", "v")), Site("h", "k", "u", "v", home=ALL),
            Site("c", "v", "k", "u"), Feed("e", "h", "c"))


def three_feeds(policy, *, home=None):
    """A site c with the feeds e, f and g into it, e the first one though the site comes first."""
    other = NEVER if home is not None else ALL
    return Net(TABLE, Site("c", "k", "r", policy=policy, home=home), Site("h", "k", "r", policy="stamped", home=other),
               Feed("e", "h", "c"), Feed("f", "h", "c"), Feed("g", "h", "c"))


class Asking(unittest.TestCase):
    def unknown(self, name, make):
        with self.assertRaises(UnknownName) as caught:
            make()
        self.assertIs(caught.exception.name, name)

    def blocked(self, holding, message):
        rows = holding.rows
        with self.assertRaises(Blocked) as caught:
            holding.take("e", message)
        self.assertEqual((caught.exception.name, holding.rows), ("e", rows))


class ClassesTest(Asking):
    """Promise 7: what all holdings have in common."""

    def test_example_of_the_document(self):
        holding = holding_for(SOLE, "c")
        self.assertEqual([holding.take("e", ("insert", (5, 1))), holding.take("e", ("insert", (5, 2))), holding.rows],
                         [(((1,), None, (5, 1)),), (((1,), (5, 1), None), ((2,), None, (5, 2))), ((5, 2),)])

    def test_the_class_of_each_policy(self):
        for word, kind in CLASSES.items():
            holding = holding_for(net=three_feeds(word), name="c")
            self.assertIs(type(holding), kind)
            self.assertEqual((kind.POLICY, holding.POLICY, kind.__bases__), (word, word, (Holding,)))
            self.assertEqual((holding.rows, len(holding), holding((1,))), ((), 0, None))
            self.assertEqual(kind(net=three_feeds(word), name="c").rows, ())

    def test_each_method_is_defined_in_each_class(self):
        for kind in [Holding, *CLASSES.values()]:
            for method in ("take", "make", "rows", "__call__", "__len__"):
                self.assertIn(method, vars(kind), kind)

    def test_unknown_sites(self):
        for value in no_names() + ["e"]:
            self.unknown(value, lambda: holding_for(NET, value))
            self.unknown(value, lambda: Holding(NET, value))

    def test_unknown_feeds_whatever_the_message_is(self):
        for word in CLASSES:
            net = three_feeds(word).with_feed(Feed("x", "c", "h", own=False)) if word == "stamped" else three_feeds(word)
            holding = holding_for(net, "c")
            for value in no_names() + ["c", "h", "x"]:
                for message in (None, (), ("insert", (1, 1)), 5):
                    self.unknown(value, lambda: holding.take(value, message))
            self.assertEqual(holding.take(feed="e", message=first_message(word)), (((1,), None, (1, 5)),))

    def test_the_call_with_any_value(self):
        for word in CLASSES:
            holding = holding_for(three_feeds(word), "c")
            holding.take("e", first_message(word))
            self.assertEqual((holding((1,)), holding(key=(1,)), len(holding)), ((1, 5), (1, 5), 1))
            for value in any_values() + [(True,), [1], (2,), (1, 5), ((1,),), 1]:
                if type(value) is not tuple or value != (1,) or type(value[0]) is bool:
                    self.assertIsNone(holding(value))

    def test_two_holdings_are_independent(self):
        for word in CLASSES:
            net = three_feeds(word)
            one, other = holding_for(net, "c"), holding_for(net, "c")
            one.take("e", first_message(word))
            self.assertEqual((one.rows, other.rows, holding_for(net, "c").rows), (((1, 5),), (), ()))

    def test_rows_are_ascending_by_key(self):
        net = Net(Table("l", "k", "r", key=("k", "l")), Site("h", "l", "k", "r", home=ALL), Site("c", "k", "r", "l"),
                  Feed("e", "h", "c"))
        holding = holding_for(net, "c")
        for row in ((1, 0, 2), (2, 9, 1), (-1, None, 2), (0, 5, -7)):
            holding.take("e", ("insert", row))
        # Keys are (l, k), in the order of the table's columns.
        self.assertEqual(holding.rows, ((0, 5, -7), (2, 9, 1), (-1, None, 2), (1, 0, 2)))
        self.assertEqual(holding((2, -1)), (-1, None, 2))
        self.assertEqual(holding.take("e", ("delete", (2, -1))), (((2, -1), (-1, None, 2), None),))


def first_message(word):
    return ("row", 1, (1, 5)) if word == "stamped" else ("insert", (1, 5))


class WritingTest(Asking):
    """Promise 7: wait, skip and put, message by message."""

    def test_waiting(self):
        holding = holding_for(three_feeds("wait"), "c")
        self.blocked(holding, ("update", (1, 5)))
        self.blocked(holding, ("delete", (1,)))
        self.assertEqual(holding.take("e", ("insert", (1, 5))), (((1,), None, (1, 5)),))
        self.blocked(holding, ("insert", (1, 5)))
        self.blocked(holding, ("insert", (1, 6)))
        self.assertEqual(holding.take("f", ("update", (1, None))), (((1,), (1, 5), (1, None)),))
        self.assertEqual(holding.take("f", ("update", (1, None))), ())
        self.assertEqual(holding.take("g", ("delete", (1,))), (((1,), (1, None), None),))
        self.assertEqual(holding.rows, ())

    def test_skipping(self):
        holding = holding_for(three_feeds("skip"), "c")
        for message in (("update", (1, 5)), ("delete", (1,))):
            self.assertEqual(holding.take("e", message), ())
        self.assertEqual(holding.take("e", ("insert", (1, 5))), (((1,), None, (1, 5)),))
        self.assertEqual(holding.take("f", ("insert", (1, 6))), ())
        self.assertEqual(holding.rows, ((1, 5),))
        self.assertEqual(holding.take("f", ("update", (1, 6))), (((1,), (1, 5), (1, 6)),))
        self.assertEqual(holding.take("f", ("update", (1, 6))), ())
        self.assertEqual(holding.take("e", ("delete", (1,))), (((1,), (1, 6), None),))

    def test_putting(self):
        holding = holding_for(three_feeds("put"), "c")
        self.assertEqual(holding.take("e", ("delete", (1,))), ())
        self.assertEqual(holding.take("e", ("update", (1, 5))), (((1,), None, (1, 5)),))
        self.assertEqual(holding.take("e", ("insert", (1, 5))), ())
        self.assertEqual(holding.take("e", ("insert", (1, 6))), (((1,), (1, 5), (1, 6)),))
        self.assertEqual(holding.take("f", ("delete", (1,))), (((1,), (1, 6), None),))

    def test_clashes_at_a_site_that_waits(self):
        holding = holding_for(PAIRS.with_policy("c", "wait"), "c")
        holding.take("e", ("insert", (7, 1, 5)))
        holding.take("e", ("insert", (8, 2, 6)))
        for message in (("insert", (9, 3, 5)), ("insert", (7, 3, 4)), ("update", (8, 1, 5)), ("update", (7, 1, 6))):
            self.blocked(holding, message)
        self.assertEqual(holding.take("e", ("insert", (None, 3, None))), (((3,), None, (None, 3, None)),))
        self.assertEqual(holding.take("e", ("insert", (None, 4, None))), (((4,), None, (None, 4, None)),))
        # A value in another column is another value, and a row does not clash with itself.
        self.assertEqual(holding.take("e", ("update", (5, 3, 7))), (((3,), (None, 3, None), (5, 3, 7)),))
        self.assertEqual(holding.take("e", ("update", (7, 1, None))), (((1,), (7, 1, 5), (7, 1, None)),))
        self.assertEqual(holding.take("e", ("update", (None, 4, 5))), (((4,), (None, 4, None), (None, 4, 5)),))

    def test_clashes_at_a_site_that_puts(self):
        holding = holding_for(PAIRS, "c")
        for row in ((7, 3, 1), (8, 2, 2), (9, 1, 3), (None, 4, None)):
            holding.take("e", ("insert", row))
        steps = holding.take("e", ("insert", (7, 5, 3)))
        self.assertEqual(steps, (((1,), (9, 1, 3), None), ((3,), (7, 3, 1), None), ((5,), None, (7, 5, 3))))
        self.assertEqual(holding.take("e", ("update", (8, 2, 3))),
                         (((5,), (7, 5, 3), None), ((2,), (8, 2, 2), (8, 2, 3))))
        self.assertEqual(holding.take("e", ("insert", (7, 9, 2))), (((9,), None, (7, 9, 2)),))
        self.assertEqual(holding.rows, ((8, 2, 3), (None, 4, None), (7, 9, 2)))

    def test_made_changes_are_written_as_by_put(self):
        for word in ("wait", "skip", "put"):
            holding = holding_for(three_feeds(word, home=ALL), "c")
            self.assertEqual(holding.make((1,), None, 1), ())
            self.assertEqual(holding.make(key=(1,), new=(1, 5), stamp=2), (((1,), None, (1, 5)),))
            self.assertEqual(holding.make((1,), (1, 5), 3), ())
            self.assertEqual(holding.make((1,), (1, 6), 4), (((1,), (1, 5), (1, 6)),))
            self.assertEqual(holding.make((1,), None, 9), (((1,), (1, 6), None),))
        for word in ("wait", "put"):
            holding = holding_for(SOLE.with_policy("h", word), "h")
            holding.make((2,), (2, 5), 1)
            self.assertEqual(holding.make((1,), (1, 5), 2), (((2,), (2, 5), None), ((1,), None, (1, 5))))

    def test_replaced_boxes(self):
        holding = holding_for(three_feeds("put"), "c")
        for key in (3, 10, 1, 2, 12):
            holding.take("e", ("insert", (key, 5)))
        steps = holding.take("f", ("replace", LOW, ((0, 1), (2, 5), (3, 6))))
        self.assertEqual(steps, (((1,), (1, 5), None), ((0,), None, (0, 1)), ((3,), (3, 5), (3, 6))))
        self.assertEqual(holding.rows, ((0, 1), (2, 5), (3, 6), (10, 5), (12, 5)))
        self.assertEqual(holding.take("e", ("replace", NEVER, ())), ())
        self.assertEqual(holding.take("e", ("replace", Filter.missing("k"), ((0, 2),))), (((0,), (0, 1), (0, 2)),))
        self.assertEqual(holding.take("e", ("replace", ALL, ())), tuple(
            ((row[0],), row, None) for row in ((0, 2), (2, 5), (3, 6), (10, 5), (12, 5))))

    def test_replaced_boxes_of_two_key_columns(self):
        net = Net(Table("l", "k", "r", key=("k", "l")), Site("h", "l", "k", "r", home=ALL), Site("c", "r", "k", "l"),
                  Feed("e", "h", "c"))
        holding = holding_for(net, "c")
        for row in ((5, 1, 1), (5, 1, 20), (5, 20, 1)):
            holding.take("e", ("insert", row))
        box = HIGH & Filter.within("l", Ranges.of(1))
        self.assertEqual(holding.take("e", ("replace", box, ())), (((1, 20), (5, 20, 1), None),))


class SharingTest(Asking):
    """Promise 7: shares."""

    def test_the_first_feed_of_the_net_is_shown(self):
        holding = holding_for(three_feeds("shares"), "c")
        self.assertEqual(holding.take("g", ("insert", (1, 7))), (((1,), None, (1, 7)),))
        self.assertEqual(holding.take("e", ("update", (1, 5))), (((1,), (1, 7), (1, 5)),))
        self.assertEqual(holding.take("f", ("insert", (1, 6))), ())
        self.assertEqual(holding.take("g", ("delete", (2,))), ())
        self.assertEqual(holding.take("e", ("delete", (1,))), (((1,), (1, 5), (1, 6)),))
        self.assertEqual(holding.take("f", ("update", (1, 7))), (((1,), (1, 6), (1, 7)),))
        self.assertEqual(holding.take("f", ("delete", (1,))), ())
        self.assertEqual(holding.rows, ((1, 7),))
        self.assertEqual(holding.take("g", ("delete", (1,))), (((1,), (1, 7), None),))

    def test_shares(self):
        holding = holding_for(three_feeds("shares"), "c")
        holding.take("f", ("insert", (2, 5)))
        holding.take("f", ("insert", (1, 5)))
        holding.take("g", ("insert", (1, 6)))
        self.assertEqual([holding.share(feed) for feed in ("", "e", "f", "g")],
                         [(), (), ((1, 5), (2, 5)), ((1, 6),)])
        self.assertEqual(holding.share(feed="g"), ((1, 6),))
        for value in no_names() + ["h", "c"]:
            if value != "":
                self.unknown(value, lambda: holding.share(value))

    def test_made_rows_stand_ahead_of_all_feeds(self):
        holding = holding_for(three_feeds("shares", home=ALL), "c")
        holding.take("e", ("insert", (1, 5)))
        self.assertEqual(holding.make((1,), (1, 9), 1), (((1,), (1, 5), (1, 9)),))
        self.assertEqual(holding.take("e", ("update", (1, 6))), ())
        self.assertEqual((holding.share(""), holding.share("e")), (((1, 9),), ((1, 6),)))
        self.assertEqual(holding.make((1,), None, 2), (((1,), (1, 9), (1, 6)),))
        self.assertEqual(holding.make((1,), None, 3), ())
        self.assertEqual(holding.share(""), ())


class StampingTest(Asking):
    """Promise 7: stamps."""

    def test_greater_stamps_are_accepted(self):
        holding = holding_for(three_feeds("stamped"), "c")
        self.assertEqual((holding.stamp_of((1,)), holding.stamp_of(key=(2,))), (0, 0))
        self.assertEqual(holding.take("e", ("row", 3, (1, 5))), (((1,), None, (1, 5)),))
        self.assertEqual(holding.take("f", ("row", 2, (1, 6))), ())
        self.assertEqual(holding.take("f", ("out", 2, (1,))), ())
        self.assertEqual(holding.take("f", ("row", 3, (1, 6))), ())
        self.assertEqual(holding.take("f", ("out", 3, (1,))), ())
        self.assertEqual((holding.rows, holding.stamp_of((1,))), (((1, 5),), 3))
        self.assertEqual(holding.take("e", ("row", 5, (1, 5))), (((1,), (1, 5), (1, 5)),))
        self.assertEqual(holding.take("e", ("out", 7, (1,))), (((1,), (1, 5), None),))
        self.assertEqual((holding.rows, len(holding), holding.stamp_of((1,))), ((), 0, 7))

    def test_an_equal_stamp_brings_a_row_where_none_is(self):
        holding = holding_for(three_feeds("stamped"), "c")
        self.assertEqual(holding.take("e", ("out", 3, (1,))), (((1,), None, None),))
        self.assertEqual(holding.take("f", ("out", 3, (1,))), ())
        self.assertEqual(holding.take("f", ("row", 3, (1, 6))), (((1,), None, (1, 6)),))
        self.assertEqual(holding.take("g", ("row", 3, (1, 7))), ())
        self.assertEqual(holding.rows, ((1, 6),))

    def test_made_changes_are_accepted(self):
        holding = holding_for(three_feeds("stamped", home=ALL), "c")
        self.assertEqual(holding.make((1,), None, 1), (((1,), None, None),))
        self.assertEqual(holding.make((1,), (1, 5), 2), (((1,), None, (1, 5)),))
        self.assertEqual(holding.make((1,), (1, 5), 8), (((1,), (1, 5), (1, 5)),))
        self.assertEqual((holding.stamp_of((1,)), holding.take("e", ("row", 7, (1, 6)))), (8, ()))


class ChanceTest(Asking):
    """Promise 7: against the words of point 13."""

    def nets(self, chance):
        table = Table("k", "r", "u", key=("k",), unique=("u",) if chance.random() < 0.5 else ())
        columns = ["k", "r", "u"]
        chance.shuffle(columns)
        word = chance.choice(("wait", "put") if table.unique else tuple(CLASSES))
        home = ALL if chance.random() < 0.4 else None
        sites = [Site("c", *columns, policy=word, home=home),
                 Site("h", "k", "r", "u", policy="put" if table.unique else "stamped", home=None if home else ALL)]
        return Net(table, *sites, Feed("e", "h", "c"), Feed("f", "h", "c"), Feed("g", "h", "c"))

    def test_holdings_by_chance(self):
        chance = random.Random(11)
        for _ in range(250):
            net = self.nets(chance)
            word, model, holding = net.site("c").policy, Model(net), holding_for(net, "c")
            for stamp in range(1, 30):
                row = dict(zip(net.table.columns, chance_row(chance, net.table)))
                key, told = model.key(row), model.told(row, "c")
                if net.homes == ("c",) and chance.random() < 0.3:
                    new = None if chance.random() < 0.4 else row
                    steps = model.taken("c", "", None, (key, new, stamp))
                    found = holding.make(key, model.told(new, "c"), stamp)
                else:
                    feed, number = chance.choice("efg"), max(1, stamp - chance.randrange(4))
                    message = chance.choice((("insert", row), ("update", row), ("delete", key)))
                    if word == "stamped":
                        message = chance.choice((("row", number, row), ("out", number, key)))
                    model.sent[feed], model.place[feed] = [message], 0
                    sent = tuple(told if part is row else part for part in message)
                    if model.blocked(feed):
                        with self.assertRaises(Blocked):
                            holding.take(feed, sent)
                        continue
                    steps = model.taken("c", feed, message, None)
                    found = holding.take(feed, sent)
                self.assertEqual(found, tuple((at, model.told(old, "c"), model.told(new, "c")) for at, old, new in steps))
                self.assertEqual((holding.rows, len(holding)), (model.held("c"), len(model.shown["c"])))


if __name__ == "__main__":
    unittest.main()
