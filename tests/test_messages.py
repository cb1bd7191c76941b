"""Points 5, 11 and 22: messages."""

import itertools
import random
import unittest

from chances import chance_net
from examples import ALL, NET, ONES, TABLE
from model import Model
from speaklast.errors import UnknownName
from speaklast.feeds import Feed
from speaklast.filters import Filter
from speaklast.messages import message_for, stamped_message
from speaklast.nets import Net
from speaklast.ranges import Ranges
from speaklast.sites import Site
from speaklast.tables import Table
from values import no_names

# The source has the key in the middle; the targets have fewer columns, in other orders.
MIXED = Net(
    Table("a", "b", "k", "l", key=("l", "k")),
    Site("h", "b", "l", "a", "k", home=ALL, policy="stamped"),
    Site("c", "k", "b", "l"), Site("d", "l", "k"), Site("s", "a", "l", "k", policy="stamped"),
    Feed("e", "h", "c", where=Filter.within("a", Ranges.between(1, 5))), Feed("f", "h", "d"),
    Feed("g", "h", "s", where=~Filter.missing("b")), Feed("i", "h", "d", own=True, where=Filter.missing("a")))


class MessagesTest(unittest.TestCase):
    """Promise 6."""

    def test_example_of_the_document(self):
        self.assertEqual(
            [message_for(NET, "f", None, (7, 1)), message_for(NET, "f", (7, 1), (7, 2)),
             message_for(NET, "f", (7, 2), (7, None)), message_for(NET, "e", (7, 1), (7, None))],
            [("insert", (7, 1)), ("delete", (7,)), None, ("update", (7, None))])

    def test_rows_that_pass_and_do_not(self):
        """The filter of f is true for 1, false for 2, unknown for None."""
        rows = {"none": None, "true": (7, 1), "false": (7, 2), "unknown": (7, None)}
        for (old, was), (new, now) in itertools.product(rows.items(), rows.items()):
            wanted = None
            if new == "true" and old != "true":
                wanted = ("insert", (7, 1))
            if old == "true" and new != "true":
                wanted = ("delete", (7,))
            self.assertEqual(message_for(net=NET, feed="f", old=was, new=now), wanted)

    def test_nothing_to_tell(self):
        for feed in NET.feeds:
            self.assertIsNone(message_for(NET, feed, None, None))
            for row in ((7, 1), (7, 2), (7, None)):
                self.assertIsNone(message_for(NET, feed, row, row))
        self.assertEqual(message_for(NET, "e", (7, 1), (7, 2)), ("update", (7, 2)))
        self.assertEqual(message_for(NET, "e", (7, 1), None), ("delete", (7,)))

    def test_other_orders_and_fewer_columns(self):
        # A row of h has its values for b, l, a, k.
        self.assertEqual(message_for(MIXED, "e", None, (10, 20, 3, 40)), ("insert", (40, 10, 20)))
        self.assertEqual(message_for(MIXED, "e", (10, 20, 3, 40), None), ("delete", (40, 20)))
        self.assertEqual(message_for(MIXED, "e", (10, 20, 3, 40), (10, 20, 6, 40)), ("delete", (40, 20)))
        self.assertEqual(message_for(MIXED, "e", (10, 20, 3, 40), (11, 20, 4, 40)), ("update", (40, 11, 20)))
        self.assertIsNone(message_for(MIXED, "e", (10, 20, 3, 40), (10, 20, 4, 40)))
        self.assertEqual(message_for(MIXED, "e", (10, 20, None, 40), (10, 20, 4, 40)), ("insert", (40, 10, 20)))
        self.assertIsNone(message_for(MIXED, "f", (10, 20, 3, 40), (None, 20, None, 40)))
        self.assertEqual(message_for(MIXED, "f", None, (None, 20, None, 40)), ("insert", (20, 40)))
        self.assertEqual(message_for(MIXED, "i", (1, 20, None, 40), (1, 20, 3, 40)), ("delete", (40, 20)))

    def test_keys_have_the_order_of_the_table(self):
        self.assertEqual(MIXED.table.key, ("k", "l"))
        self.assertEqual(stamped_message(MIXED, "g", 3, (40, 20), None), ("out", 3, (40, 20)))

    def test_stamped_messages(self):
        self.assertEqual(stamped_message(net=MIXED, feed="g", stamp=5, key=(40, 20), new=(10, 20, None, 40)),
                         ("row", 5, (None, 20, 40)))
        self.assertEqual(stamped_message(MIXED, "g", 6, (40, 20), (None, 20, 3, 40)), ("out", 6, (40, 20)))
        net = Net(TABLE, Site("h", "k", "r", home=ALL), Site("s", "k", "r", policy="stamped"),
                  Feed("e", "h", "s", where=ONES, own=True))
        self.assertEqual([stamped_message(net, "e", 1, (7,), row) for row in ((7, 1), (7, 2), (7, None), None)],
                         [("row", 1, (7, 1)), ("out", 1, (7,)), ("out", 1, (7,)), ("out", 1, (7,))])

    def test_unknown_feeds(self):
        for value in no_names() + ["h", "c"]:
            for ask in (lambda: message_for(NET, value, None, None), lambda: stamped_message(NET, value, 1, (7,), None)):
                with self.assertRaises(UnknownName) as caught:
                    ask()
                self.assertIs(caught.exception.name, value)

    def test_messages_by_chance(self):
        chance = random.Random(10)
        for _ in range(200):
            net = chance_net(chance)
            model = Model(net)
            for feed in net.feeds:
                source, target = net.site(net.feed(feed).source), net.feed(feed).target
                old, new = [self.row_by_chance(chance, net.table, source) for _ in range(2)]
                key = net.table.key_of(tuple((new or old or {}).get(column, 0) for column in net.table.columns))
                message = model.message(feed, (key, old, new), 4)
                wanted = message and tuple(model.part(part, target) for part in message)
                if net.site(target).policy == "stamped":
                    self.assertEqual(stamped_message(net, feed, 4, key, model.told(new, source.name)), wanted)
                else:
                    self.assertEqual(message_for(net, feed, model.told(old, source.name), model.told(new, source.name)),
                                     wanted)

    def row_by_chance(self, chance, table, site):
        if chance.random() < 0.2:
            return None
        return {column: 0 if column in table.key else chance.choice((None, 0, 1, 2)) for column in site.columns}


if __name__ == "__main__":
    unittest.main()
