"""Points 27 and 28: what fails in a net."""

import random
import unittest

from chances import chance_net, drive_by_chance, settle_by_chance
from examples import ALL, HIGH, LOW, NET, NEVER, ONES, RING, SOLE, TABLE, chain
from speaklast.cells import Grid
from speaklast.errors import TooMany
from speaklast.feeds import Feed
from speaklast.filters import Filter
from speaklast.nets import Net
from speaklast.ranges import Ranges
from speaklast.rules import failings
from speaklast.runs import Run
from speaklast.sites import Site
from speaklast.tables import Table
from words import Words

TWOS = Filter.within("r", Ranges.of(2))
POSITIVE = Filter.within("r", Ranges.between(1, None))


def told(net, falls=False):
    return list(failings(net, falls=falls))


class FibreTest(unittest.TestCase):
    """Promise 3: fibres, policy by policy."""

    def test_example_of_the_document(self):
        self.assertEqual([row[:5] for row in failings(NET)], [("fibre", "h", "c", "f", "e")])
        self.assertEqual(told(NET), [("fibre", "h", "c", "f", "e", (0, 1), (0, 0))])

    def test_the_five_policies(self):
        apart = NET.with_filter("e", TWOS)
        self.assertEqual(told(apart.with_policy("c", "wait")), [("fibre", "h", "c", "e", "f", (0, 2), (0, 1))])
        for word in ("skip", "put"):
            self.assertEqual(told(apart.with_policy("c", word)),
                             [("fibre", "h", "c", "e", "f", (0, 2), (0, 1)), ("fibre", "h", "c", "f", "e", (0, 1), (0, 2))])
        self.assertEqual(told(apart.with_policy("c", "shares"), falls=True), [])
        stamped = Net(TABLE, NET.site("h"), Site("c", "k", "r", policy="stamped"), Feed("e", "h", "c", own=True),
                      Feed("f", "h", "c", own=True, where=ONES))
        self.assertEqual(told(stamped, falls=True), [])

    def test_what_both_bring_does_no_harm_unless_the_site_waits(self):
        same = NET.with_filter("f", ALL)
        self.assertEqual((told(same), told(same.with_policy("c", "skip"), falls=True)), ([], []))
        self.assertEqual(told(same.with_policy("c", "wait")), [("fibre", "h", "c", "e", "f", (0, 0), (0, 0))])
        self.assertEqual(told(NET.with_policy("c", "wait")), [("fibre", "h", "c", "e", "f", (0, 0), (0, 1))])

    def test_the_least_cells(self):
        net = NET.with_filter("e", Filter.within("r", Ranges.between(2, None)) & HIGH).with_filter("f", POSITIVE)
        # k: to 9, from 10; r: to 0, 1, from 2, None.
        self.assertEqual(told(net), [("fibre", "h", "c", "e", "f", (1, 2), (1, 1))])
        self.assertEqual(told(net.with_filter("f", Filter.missing("r") | ONES)),
                         [("fibre", "h", "c", "e", "f", (1, 2), (1, 1)), ("fibre", "h", "c", "f", "e", (1, 1), (1, 2))])

    def test_feeds_of_other_keys_do_no_harm(self):
        for word in ("wait", "skip", "put"):
            net = NET.with_filter("e", LOW).with_filter("f", HIGH).with_policy("c", word)
            self.assertEqual(told(net), [])

    def test_pairs_are_in_order_and_those_of_a_site_that_waits_each_once(self):
        net = NET.with_filter("e", TWOS).with_feed(Feed("a", "h", "c", where=Filter.missing("r")))
        self.assertEqual([row[3:5] for row in failings(net)],
                         [("e", "f"), ("e", "a"), ("f", "e"), ("f", "a"), ("a", "e"), ("a", "f")])
        self.assertEqual([row[3:5] for row in failings(net.with_policy("c", "wait"))], [("e", "f"), ("e", "a"), ("f", "a")])

    def test_own_rows_are_a_speaker(self):
        """Rows of h come back over a stamped site: no ring, but they speak beside the home."""
        for word, wanted in (("put", [("fibre", "h", "h", "f", "", (0, 1), (0, 0))]),
                             ("skip", [("fibre", "h", "h", "f", "", (0, 1), (0, 0))]),
                             ("wait", [("fibre", "h", "h", "", "f", (0, 0), (0, 1))]), ("shares", [])):
            net = Net(TABLE, Site("h", "k", "r", home=ALL, policy=word), Site("s", "k", "r", policy="stamped"),
                      Feed("e", "h", "s", own=True, where=ONES), Feed("f", "s", "h"))
            self.assertEqual(told(net), wanted)

    def test_fixed_columns_and_keys_that_come_once(self):
        for reuse, wanted in ((True, 2), (False, 0)):
            table = Table("k", "r", key=("k",), fixed=("r",), reuse=reuse)
            net = Net(table, Site("h", "k", "r", home=ALL), Site("c", "k", "r"), Feed("e", "h", "c", where=ONES),
                      Feed("f", "h", "c", where=TWOS))
            self.assertEqual(len(told(net)), wanted)
            self.assertEqual(len(told(net.with_policy("c", "wait"))), wanted // 2)
        once = Table("k", "r", key=("k",), reuse=False)
        net = Net(once, Site("h", "k", "r", home=ALL), Site("c", "k", "r"), Feed("e", "h", "c", where=ONES),
                  Feed("f", "h", "c", where=TWOS))
        self.assertEqual(len(told(net)), 2)

    def test_two_homes_in_order(self):
        net = Net(TABLE, Site("b", "k", "r", home=HIGH), Site("c", "k", "r"), Site("a", "k", "r", home=LOW), Feed("e", "a", "c"),
                  Feed("f", "a", "c", where=ONES), Feed("g", "b", "c", where=ONES), Feed("i", "b", "c"))
        self.assertEqual([row[:5] for row in failings(net)], [("fibre", "b", "c", "g", "i"), ("fibre", "a", "c", "f", "e")])
        apart = net.without("f").without("g")
        self.assertEqual(told(apart), [])
        self.assertEqual(told(apart.with_policy("c", "wait")), [])

    def test_an_empty_region_fails_nowhere(self):
        net = Net(TABLE, Site("h", "k", "r", home=NEVER, policy="wait"), Site("c", "k", "r", policy="wait"), Feed("e", "h", "c"),
                  Feed("f", "h", "c"), Feed("g", "c", "h"))
        self.assertEqual(told(net, falls=True), [])

    def test_feeds_through_which_nothing_comes(self):
        net = NET.with_filter("f", NEVER).with_policy("c", "wait").with_feed(Feed("g", "c", "h", where=NEVER))
        self.assertEqual(told(net), [])
        self.assertEqual(told(net, falls=True), [("fall", "h", "c", "e", (0, 0))])


class FallTest(unittest.TestCase):
    """Promise 3: falls, asked and not asked."""

    def test_falls(self):
        net = NET.with_policy("c", "wait").with_filter("e", TWOS)
        fibre = ("fibre", "h", "c", "e", "f", (0, 2), (0, 1))
        self.assertEqual(told(net, falls=True), [("fall", "h", "c", "e", (0, 2)), ("fall", "h", "c", "f", (0, 1)), fibre])
        self.assertEqual(told(net, falls=False), [fibre])
        self.assertEqual(list(failings(net=net)), [fibre])

    def test_only_sites_that_wait_and_only_feeds_fall(self):
        for word in ("skip", "put", "shares"):
            self.assertEqual(told(NET.without("f").with_policy("c", word), falls=True), [])
        waiting = NET.without("f").with_policy("h", "wait")
        self.assertEqual(told(waiting, falls=True), [])
        self.assertEqual(told(waiting.with_policy("c", "wait"), falls=True), [("fall", "h", "c", "e", (0, 0))])


class ValueTest(unittest.TestCase):
    """Promise 3: unique values."""

    def test_one_value_of_unlike_keys(self):
        net = SOLE.with_filter("e", LOW).with_feed(Feed("f", "h", "c", where=HIGH))
        # k: to 9, from 10; u: all, None.
        self.assertEqual(told(net), [("value", "h", "c", "u", "e", "f", (0, 0), (1, 0)), ("value", "h", "c", "u", "f", "e", (1, 0), (0, 0))])
        self.assertEqual(told(net.with_policy("c", "wait")), [("value", "h", "c", "u", "e", "f", (0, 0), (1, 0))])

    def test_sites_without_the_column(self):
        net = Net(SOLE.table, SOLE.site("h"), Site("c", "k", policy="skip"), Feed("e", "h", "c", where=LOW), Feed("f", "h", "c", where=HIGH))
        self.assertEqual(told(net), [])

    def test_none_is_no_value(self):
        missing = Filter.missing("u")
        net = SOLE.with_filter("e", LOW & missing).with_feed(Feed("f", "h", "c", where=HIGH & missing))
        self.assertEqual(told(net), [])
        self.assertEqual(told(net.with_filter("f", HIGH)), [])

    def test_what_both_bring_does_no_harm_unless_the_site_waits(self):
        net = SOLE.with_feed(Feed("f", "h", "c"))
        self.assertEqual(told(net), [])
        self.assertEqual(told(net.with_policy("c", "wait")), [("fibre", "h", "c", "e", "f", (0, 0), (0, 0)),
                                                              ("value", "h", "c", "u", "e", "f", (0, 0), (0, 0))])

    def test_cells_of_one_key(self):
        """Only rows of one key pass: no other key has their value."""
        one = Filter.within("k", Ranges.of(1))
        other = Filter.within("k", Ranges.of(1, 3))
        net = SOLE.with_policy("c", "wait").with_filter("e", one).with_feed(Feed("f", "h", "c", where=one))
        self.assertEqual([row[0] for row in failings(net)], ["fibre"])
        # k: to 0, 1, 2, 3, from 4.
        self.assertEqual(told(net.with_filter("f", other))[1:], [("value", "h", "c", "u", "e", "f", (1, 0), (3, 0))])
        self.assertEqual(told(net.with_filter("e", other))[1:], [("value", "h", "c", "u", "e", "f", (3, 0), (1, 0))])

    def test_cells_of_two_keys(self):
        two = Filter.within("k", Ranges.between(1, 2))
        net = SOLE.with_policy("c", "wait").with_filter("e", two).with_feed(Feed("f", "h", "c", where=two))
        self.assertEqual(told(net)[1:], [("value", "h", "c", "u", "e", "f", (1, 0), (1, 0))])

    def test_a_cell_of_another_key_behind_others_of_the_same_key(self):
        table = Table("k", "r", "u", key=("k",), unique=("u",))
        net = Net(table, Site("h", "k", "r", "u", home=ALL), Site("c", "k", "u", policy="wait"),
                  Feed("e", "h", "c", where=Filter.within("k", Ranges.of(1)) & ~ONES),
                  Feed("f", "h", "c", where=Filter.within("k", Ranges.of(1, 3))))
        # k: to 0, 1, 2, 3, from 4; r: to 0, 1, from 2, None; u: all, None.
        self.assertEqual(told(net)[1:], [("value", "h", "c", "u", "e", "f", (1, 0, 0), (3, 0, 0))])

    def test_two_columns_and_two_key_columns(self):
        table = Table("v", "k", "u", "l", key=("k", "l"), unique=("u", "v"))
        low = Filter.within("l", Ranges.of(0))
        net = Net(table, Site("h", *table.columns, home=ALL), Site("c", "u", "l", "k", "v"), Feed("e", "h", "c", where=low),
                  Feed("f", "h", "c", where=~low & Filter.missing("u")), Feed("g", "h", "c", where=~low & ~Filter.missing("u")))
        self.assertEqual([(row[0], row[3:6]) for row in failings(net) if row[0] == "value"],
                         [("value", (column, f, e)) for column, pairs in (("v", "efegfefggegf"), ("u", "egge"))
                          for f, e in zip(pairs[::2], pairs[1::2])])

    def test_fibres_go_ahead_of_values(self):
        net = SOLE.with_feed(Feed("f", "h", "c", where=Filter.within("u", Ranges.of(1)))).with_policy("c", "wait")
        self.assertEqual([row[0] for row in failings(net, falls=True)], ["fall", "fall", "fibre", "value"])


class RingTest(unittest.TestCase):
    """Promises 3 and 4: rings go first."""

    def test_a_ring_hides_all_else_of_its_home(self):
        net = RING.with_feed(Feed("f", "h", "a", where=ONES)).with_policy("a", "wait")
        self.assertEqual(told(net, falls=True), [("ring", "h", ("h", "a"), (0, 0))])

    def test_homes_without_a_ring_still_fail(self):
        net = Net(TABLE, Site("a", "k", "r", home=LOW), Site("b", "k", "r", home=HIGH), Site("c", "k", "r"), Feed("p", "a", "c"),
                  Feed("q", "c", "a", where=LOW), Feed("e", "b", "c"), Feed("f", "b", "c", where=ONES))
        self.assertEqual(told(net), [("ring", "a", ("a", "c"), (0, 0)), ("fibre", "b", "c", "f", "e", (1, 1), (1, 0))])

    def test_least_cells_and_order_of_rings(self):
        net = chain(6, back=((2, 1), (5, 4), (3, 1))).with_filter("gc", ONES).with_filter("ga", TWOS).with_filter("fd", TWOS)
        self.assertEqual(told(net), [("ring", "sa", ("sb", "sc"), (0, 2)), ("ring", "sa", ("sb", "sc", "sd"), (0, 1)),
                                     ("ring", "sa", ("se", "sf"), (0, 2))])


class WholeTest(unittest.TestCase):
    """Promise 3: against the words of points 27 and 28."""

    def test_too_many_when_the_first_one_is_asked_for(self):
        asked = failings(NET.with_filter("f", Filter.within("k", Ranges.of(*range(0, 1000, 2)))))
        with self.assertRaises(TooMany) as caught:
            next(asked)
        self.assertEqual(caught.exception.count, 2002)

    def test_by_chance(self):
        chance, seen = random.Random(19), {}
        for _ in range(300):
            net = chance_net(chance)
            for falls in (False, True):
                wanted = [row for home in net.homes for row in Words(net, home).failings(falls)]
                self.assertEqual(list(failings(net, falls=falls)), wanted)
                for row in wanted:
                    seen[row[0]] = seen.get(row[0], 0) + 1
        self.assertEqual(set(seen), {"fall", "fibre", "value", "ring"})
        self.assertGreater(min(seen.values()), 9)

    def test_many_cells(self):
        table = Table("k", "l", "r", "u", key=("k", "l"), unique=("u",), fixed=("r",), reuse=False)
        chance = random.Random(20)
        def where(column, many):
            return Filter.within(column, Ranges.of(*range(0, 2 * many, 2)))
        feeds = [Feed("f" + chr(97 + at), "h", "c", where=where(*chance.choice((("k", 3), ("l", 2), ("r", 2), ("u", 2))))) for at in range(12)]
        feeds += [Feed("ga", "h", "c", where=where("k", 3)), Feed("gb", "h", "c", where=where("u", 2))]
        net = Net(table, Site("h", *table.columns, home=ALL), Site("c", *table.columns, policy="wait"), *feeds)
        self.assertGreater(Grid(net).size, 700)
        found = told(net, falls=True)
        self.assertEqual([row[0] for row in found], ["fall"] * 14 + ["fibre"] * 91 + ["value"] * 91)

    def test_nets_in_which_nothing_fails_end_right(self):
        chance, many = random.Random(21), 0
        while many < 60:
            net, falls = chance_net(chance), chance.random() < 0.5
            if not told(net, falls):
                many += 1
                self.end_right(chance, net, falls)

    def end_right(self, chance, net, falls):
        run = Run(net)
        drive_by_chance(chance, run, falls, 20)
        self.assertIs(settle_by_chance(chance, run, most=2000), True)
        self.assertEqual((run.stuck, [run.right(site) for site in net.sites]), ((), [True] * len(net)))


if __name__ == "__main__":
    unittest.main()
