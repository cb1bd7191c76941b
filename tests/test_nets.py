"""Points 2, 6, 7, 8 and 21: nets."""

import itertools
import random
import unittest

from chances import chance_net
from examples import ALL, HIGH, LOW, NET, NEVER, ONES, SOLE, SOLE_TABLE, TABLE, WIDE, chain
from speaklast.errors import InvalidFeed, InvalidNet, InvalidSite, TooMany, UnknownName
from speaklast.feeds import Feed
from speaklast.filters import Filter
from speaklast.nets import Net
from speaklast.ranges import Ranges
from speaklast.sites import Site
from speaklast.tables import Table
from values import any_values, no_names

HOME = Site("h", "k", "r", home=ALL)
COPY = Site("c", "k", "r")


def names(count, letter):
    return [letter + chr(97 + at) for at in range(count)]


class Refusing(unittest.TestCase):
    def refused(self, reason, name, make):
        with self.assertRaises(InvalidNet) as caught:
            make()
        self.assertEqual((caught.exception.reason, caught.exception.name), (reason, name))


class FormTest(Refusing):
    """Promise 5: TooMany, then InvalidNet."""

    def asking(self, reason, name, *things, table=TABLE):
        self.refused(reason, name, lambda: Net(table, *things))
        self.refused(reason, name, lambda: Net.of(table, list(things)))

    def test_too_many_goes_ahead_of_all(self):
        many = [Site(name, "x") for name in names(9, "s")]
        feeds = [Feed(name, "x", "x") for name in names(15, "f")]
        for things, count in ((many, 8), (feeds, 14), (many + feeds, 8), (feeds + many, 8)):
            with self.assertRaises(TooMany) as caught:
                Net(TABLE, *things)
            self.assertEqual(caught.exception.count, count)
        self.asking("columns", "sa", *many[:8], *feeds[:14])
        self.assertEqual((Net.MOST_SITES, Net.MOST_FEEDS, Net.MOST_HOMES), (8, 14, 3))

    def test_eight_sites_and_fourteen_feeds_stand(self):
        sites = [Site(name, "k", "r", home=ALL if name == "sa" else None) for name in names(8, "s")]
        feeds = [Feed(name, "sa", "sb") for name in names(14, "f")]
        net = Net(TABLE, *feeds, *sites)
        self.assertEqual((net.sites, net.feeds), (tuple(names(8, "s")), tuple(names(14, "f"))))

    def test_names(self):
        self.asking("name", "h", HOME, Site("h", "x"))
        self.asking("name", "c", HOME, COPY, Feed("c", "x", "x"))
        self.asking("name", "c", Feed("c", "h", "c"), HOME, COPY)
        self.asking("name", "e", HOME, COPY, Feed("e", "h", "c"), Feed("f", "h", "c"), Feed("e", "h", "c"))
        self.asking("name", "f", Feed("f", "h", "c"), Feed("f", "h", "c"), Feed("h", "h", "c"), HOME, COPY)

    def test_columns(self):
        self.asking("columns", "c", HOME, Site("c", "k", "x"))
        self.asking("columns", "c", HOME, Site("c", "r"))
        self.asking("columns", "h", Site("h", "k", home=ALL), Site("c", "r"))
        self.asking("columns", "c", Site("c", "k"), HOME, table=Table("k", "r", key=("k", "r")))
        self.asking("columns", "b", HOME, Site("b", "x"), Site("a", "x"))
        Net(TABLE, Site("h", "r", "k", home=ALL), Site("c", "k"))

    def test_ends(self):
        self.asking("ends", "f", HOME, COPY, Feed("e", "h", "c"), Feed("f", "c", "c"))
        self.asking("ends", "f", HOME, COPY, Feed("f", "h", "x"), Feed("g", "x", "h"))
        self.asking("ends", "g", HOME, COPY, Feed("e", "h", "c"), Feed("g", "e", "c"))

    def test_sent(self):
        slim = Site("s", "k")
        self.asking("sent", "f", HOME, slim, Feed("e", "h", "s"), Feed("f", "s", "h"))
        self.asking("sent", "f", HOME, slim, Site("t", "k"), Feed("f", "s", "t", where=ONES))
        Net(TABLE, HOME, slim, Feed("e", "h", "s", where=ONES))

    def test_homes(self):
        def home(name, region):
            return Site(name, "k", "r", home=region)
        at = [Filter.within("k", Ranges.of(number)) for number in range(5)]
        self.asking("homes", None, COPY)
        self.asking("homes", None)
        self.asking("homes", "b", home("a", at[0]), home("b", ONES))
        self.asking("homes", "c", home("a", ALL), home("b", ALL), home("c", Filter.missing("r")))
        self.asking("homes", "b", home("a", ALL), home("b", at[0]))
        self.asking("homes", "c", home("a", at[0]), home("b", at[1]), home("c", at[1] | at[2]), home("d", at[0]))
        self.asking("homes", "d", home("a", at[0]), home("b", at[1]), home("c", at[2]), home("d", at[3]))
        self.asking("homes", "d", *[home("abcde"[n], at[n]) for n in range(5)])
        self.assertEqual(Net(TABLE, *[home("abc"[n], at[n]) for n in range(3)]).homes, ("a", "b", "c"))
        self.assertEqual(Net(TABLE, home("a", NEVER), home("b", ALL), home("c", at[0] & ~at[0])).homes, ("a", "b", "c"))
        self.assertEqual(Net(TABLE, home("a", Filter.missing("k")), home("b", ALL)).homes, ("a", "b"))

    def test_unique(self):
        homes = [Site("a", "k", "u", home=LOW), Site("b", "k", "u", home=HIGH, policy="skip")]
        self.asking("unique", "b", *homes, table=SOLE_TABLE)

    def test_policy(self):
        for word in ("skip", "shares", "stamped"):
            site = Site("c", "k", "u", policy=word)
            self.asking("policy", "c", Site("h", "k", "u", home=ALL), site, table=SOLE_TABLE)
            self.asking("policy", "h", Site("h", "k", "u", home=ALL, policy=word), site, table=SOLE_TABLE)
            Net(SOLE_TABLE, Site("h", "k", "u", home=ALL), Site("c", "k", policy=word))
        Net(SOLE_TABLE, Site("h", "k", "u", home=ALL, policy="wait"), Site("c", "k", "u"))

    def test_own(self):
        self.asking("own", "f", HOME, COPY, Feed("e", "h", "c", own=True), Feed("f", "c", "h", own=True))

    def test_stamps(self):
        stamped, home = Site("c", "k", "r", policy="stamped"), Site("h", "k", "r", home=ALL, policy="stamped")
        self.asking("stamps", "f", HOME, stamped, Feed("e", "h", "c", own=True), Feed("f", "h", "c"))
        Net(TABLE, home, stamped, Feed("e", "h", "c"), Feed("f", "h", "c", own=True))
        Net(TABLE, stamped, HOME, Feed("e", "c", "h"))

    def test_loop(self):
        sites = [Site(name, "k", "r", policy="shares", home=ALL if name == "a" else None) for name in "abc"]
        around = [Feed("e", "b", "c"), Feed("f", "c", "b")]
        self.asking("loop", "b", *sites, *around)
        self.asking("loop", "c", sites[0], sites[2], sites[1], *around)
        self.asking("loop", "c", sites[0], Site("b", "k", "r"), sites[2], *around)
        Net(TABLE, *sites, Feed("e", "a", "b", own=True), Feed("f", "b", "a"))
        Net(TABLE, *sites, Feed("e", "a", "b"), Feed("f", "b", "c"), Feed("g", "a", "c"))
        Net(TABLE, Site("a", "k", "r", home=ALL), Site("b", "k", "r"), sites[2], Feed("e", "a", "b"),
            Feed("f", "b", "a"), Feed("g", "b", "c"))

    def test_the_first_reason_is_told(self):
        """Each net breaks one rule less than the one before."""
        unique = Table("k", "u", key=("k",), unique=("u",))
        home, second = Site("h", "k", "u", home=ALL), Site("i", "k", "u", home=ALL)
        skips, stamped, slim = (Site("c", "k", "u", policy="skip"), Site("d", "k", policy="stamped"), Site("x", "k"))
        shares = [Site("y", "k", policy="shares"), Site("z", "k", policy="shares")]
        around = [Feed("fa", "y", "z"), Feed("fb", "z", "y")]
        own, unstamped = Feed("fc", "x", "y", own=True), Feed("fd", "x", "d")
        rest = [home, second, skips, stamped, slim, *shares, *around, own, unstamped]
        apart = [Site("h", "k", "u", home=LOW), Site("i", "k", "u", home=HIGH)]
        steps = [("name", "h", [*rest[:2], Site("h", "x"), *rest[3:]]),
                 ("columns", "w", [*rest[:7], Site("w", "u"), *rest[7:]]),
                 ("ends", "fe", [*rest, Feed("fe", "x", "x")]),
                 ("sent", "fe", [*rest, Feed("fe", "x", "h")]),
                 ("homes", "i", rest),
                 ("unique", "i", [*apart, *rest[2:]]),
                 ("policy", "c", [home, *rest[2:]]),
                 ("own", "fc", [home, *rest[3:]]),
                 ("stamps", "fd", [home, *rest[3:9], unstamped]),
                 ("loop", "y", [home, *rest[3:9]])]
        for reason, name, things in steps:
            self.asking(reason, name, *things, table=unique)
        Net(unique, home, *rest[3:8])


class RegionsTest(Refusing):
    """Promise 5: homes that share a key, found over all keys."""

    def check(self, table, one, other, shared):
        def make():
            return Net(table, *[Site.of(name, table.columns, home=where) for name, where in (("a", one), ("b", other))])
        if shared:
            self.refused("homes", "b", make)
        else:
            self.assertEqual(make().homes, ("a", "b"))

    def test_regions_of_one_column(self):
        ends = (None, -3, 0, 1, 10 ** 11)
        stretches = [(low, high) for low in ends for high in ends if low is None or high is None or low <= high]
        for one, other in itertools.product(stretches, stretches):
            first, second = Ranges.between(*one), Ranges.between(*other)
            self.check(TABLE, Filter.within("k", first), Filter.within("k", second), bool(first & second))

    def test_regions_of_many_stretches(self):
        evens, odds = Ranges.of(*range(0, 3000, 2)), Ranges.of(*range(1, 3000, 2))
        self.check(TABLE, Filter.within("k", evens), Filter.within("k", odds), False)
        self.check(TABLE, Filter.within("k", evens), Filter.within("k", odds | Ranges.of(2998)), True)
        self.check(TABLE, Filter.within("k", evens), ~Filter.within("k", evens), False)
        self.check(TABLE, ~Filter.within("k", evens), ~Filter.within("k", odds), True)
        self.check(TABLE, ~LOW, ~HIGH, False)
        self.check(TABLE, ALL, ~ALL, False)

    def test_a_key_that_many_conditions_tell_apart(self):
        """Each number from 0 to 2047 is the only one in just these of eleven sets."""
        def with_bit(at):
            return Ranges.of(*[number for number in range(2048) if number >> at & 1])
        for wanted in (0, 999, 1000, 1001, 2047):
            region = ALL
            for at in range(11):
                within = Filter.within("k", with_bit(at))
                region = region & (within if wanted >> at & 1 else ~within)
            region = region & Filter.within("k", Ranges.between(0, 2047))
            self.check(TABLE, region, Filter.within("k", Ranges.of(wanted)), True)
            self.check(TABLE, region, ~Filter.within("k", Ranges.of(wanted)), False)

    def test_two_key_columns(self):
        table = Table("k", "r", "l", key=("k", "l"))
        evens, odds = Ranges.of(*range(0, 1200, 2)), Ranges.of(*range(1, 1200, 2))
        def both(one, other):
            return Filter.within("k", one) & Filter.within("l", other)
        self.check(table, both(evens, evens), both(evens, odds), False)
        self.check(table, both(evens, evens), both(odds, evens), False)
        self.check(table, both(evens, evens), ~both(evens, evens), False)
        self.check(table, both(evens, evens), both(evens | Ranges.of(5), odds | Ranges.of(1198)), True)
        self.check(table, both(evens, evens) | both(odds, odds), both(odds, evens) | both(evens, odds), False)
        self.check(table, both(evens, evens) | both(odds, odds), both(odds, evens) | both(evens, Ranges.of(1, 4)), True)
        self.check(table, Filter.within("l", Ranges.of(7)), Filter.within("k", Ranges.of(9)), True)

    def test_two_key_columns_by_chance(self):
        chance = random.Random(8)
        table = Table("k", "l", key=("k", "l"))
        places = list(itertools.product(range(-1, 6), repeat=2))
        def region():
            conditions = [Filter.within(chance.choice("kl"), Ranges.between(low, low + chance.randrange(3)))
                          for low in (chance.randrange(5) for _ in range(4))] + [Filter.missing("k"), NEVER]
            chance.shuffle(conditions)
            return (conditions[0] | conditions[1]) & ~(conditions[2] & (conditions[3] | conditions[4]))
        for _ in range(300):
            one, other = region(), region()
            shared = any(one({"k": k, "l": l}) and other({"k": k, "l": l}) for k, l in places)
            self.check(table, one, other, shared)


class AskingTest(Refusing):
    """Promise 5: what a net tells."""

    def test_example_of_the_document(self):
        self.assertEqual([repr(NET), NET.feeds, list(NET.into("c")), "f" in NET, len(NET),
                          NET.with_policy("c", "skip").site("c").policy],
                         ["Net(2 sites, 2 feeds)", ("e", "f"), ["e", "f"], True, 2, "skip"])
        self.refused("stamps", "e", lambda: NET.with_policy("c", "stamped"))

    def test_attributes(self):
        self.assertEqual((WIDE.table.key, WIDE.sites, WIDE.feeds, WIDE.homes),
                         (("k", "l"), ("low", "high", "mid", "end", "last"), ("la", "lb", "lc", "ld", "le", "lf"),
                          ("low", "high")))
        mixed = Net(TABLE, Feed("f", "h", "c"), COPY, Feed("e", "c", "h"), HOME)
        self.assertEqual((mixed.sites, mixed.feeds, mixed.homes), (("c", "h"), ("f", "e"), ("h",)))
        self.assertEqual(mixed, Net.of(table=TABLE, things=(COPY, HOME, Feed("f", "h", "c"), Feed("e", "c", "h"))))

    def test_repr_and_len(self):
        for size in (1, 2, 8):
            self.assertEqual(repr(chain(size)), f"Net({size} sites, {size - 1} feeds)")
            self.assertEqual(len(chain(size)), size)

    def test_into_and_out_of(self):
        self.assertEqual([list(WIDE.into(site)) for site in WIDE.sites], [[], [], ["la", "lb"], ["lc", "lf"], ["ld", "le"]])
        self.assertEqual([list(WIDE.out_of(name=site)) for site in WIDE.sites],
                         [["la", "ld"], ["lb", "le"], ["lc", "lf"], [], []])
        asked = NET.into("zz")
        with self.assertRaises(UnknownName):
            next(asked)

    def test_in_for_any_value(self):
        for name in ("h", "c", "e", "f"):
            self.assertIs(name in NET, True)
        for value in no_names():
            self.assertIs(value in NET, False)

    def test_copies_in_and_out(self):
        home, copy, feed = Site("h", "k", "r", home=ALL), Site("c", "k", "r"), Feed("e", "h", "c")
        things = [home, copy, feed]
        net = Net.of(TABLE, things)
        copy.policy = "wait"
        feed.where = NEVER
        things.clear()
        self.assertEqual((net.site("c").policy, net.feed("e").where), ("put", ALL))
        taken, sent = net.site("c"), net.feed("e")
        taken.policy = "skip"
        sent.where = ONES
        self.assertEqual((net.site("c").policy, net.feed("e").where, len(net)), ("put", ALL, 2))
        self.assertEqual((net.site("h").columns, net.site("h").home), (("k", "r"), ALL))

    def test_equal_exactly_if_all_parts_are(self):
        def made(table=TABLE, *, site=COPY, feed=Feed("e", "h", "c"), more=()):
            return Net(table, HOME, site, feed, *more)
        self.assertEqual(made(), made())
        others = [made(Table("k", "r", key=("k",), reuse=False)), made(site=Site("c", "r", "k")),
                  made(site=Site("c", "k", "r", policy="wait")), made(feed=Feed("e", "h", "c", where=~~ALL)),
                  made(feed=Feed("e", "h", "c", own=True)), made(feed=Feed("e", "c", "h")), made(feed=Feed("f", "h", "c")),
                  made(more=[Feed("f", "h", "c")]), Net(TABLE, COPY, HOME, Feed("e", "h", "c")), made(more=[Site("d", "k")]),
                  Net(TABLE, Site("h", "k", "r", home=~~ALL), COPY, Feed("e", "h", "c"))]
        for other in others + any_values():
            self.assertIs(made() == other, False)
            self.assertIs(made() != other, True)
        one, other = Feed("e", "h", "c"), Feed("f", "h", "c")
        self.assertNotEqual(Net(TABLE, HOME, COPY, one, other), Net(TABLE, HOME, COPY, other, one))
        self.assertEqual(Net(TABLE, HOME, COPY, one, other), Net(TABLE, one, HOME, other, COPY))


class ChangingTest(Refusing):
    """Promise 5: changed nets."""

    def unknown(self, name, make):
        with self.assertRaises(UnknownName) as caught:
            make()
        self.assertIs(caught.exception.name, name)

    def test_unknown_names_go_first(self):
        for value in no_names():
            for make in (NET.site, NET.feed, NET.without, lambda name: list(NET.into(name)),
                         lambda name: list(NET.out_of(name)), lambda name: NET.with_policy(name, 0),
                         lambda name: NET.with_filter(name, 0), lambda name: NET.joined(name, "zz"),
                         lambda name: NET.joined("e", name), lambda name: NET.joined("f", name)):
                self.unknown(value, lambda: make(value))
        for name in ("e", "f"):
            self.unknown(name, lambda: NET.site(name))
            self.unknown(name, lambda: list(NET.into(name)))
            self.unknown(name, lambda: NET.with_policy(name, "put"))
        for name in ("h", "c"):
            self.unknown(name, lambda: NET.feed(name))
            self.unknown(name, lambda: NET.without(name))
            self.unknown(name, lambda: NET.with_filter(name, ALL))
            self.unknown(name, lambda: NET.joined(name, "zz"))

    def test_with_policy(self):
        changed = NET.with_policy(site="c", word="wait")
        self.assertEqual((changed.site("c").policy, changed.site("h").policy, NET.site("c").policy), ("wait", "put", "put"))
        self.assertEqual(changed.with_policy("c", "put"), NET)
        for value in any_values() + ["Put"]:
            with self.assertRaises(InvalidSite) as caught:
                NET.with_policy("c", value)
            self.assertEqual(caught.exception.reason, "policy")
        self.refused("policy", "c", lambda: SOLE.with_policy("c", "shares"))

    def test_with_filter(self):
        changed = NET.with_filter(feed="f", where=LOW)
        self.assertEqual((changed.feed("f").where, changed.feeds, NET.feed("f").where), (LOW, ("e", "f"), ONES))
        self.assertEqual(NET.with_filter("f", None).feed("f").where, ALL)
        self.assertEqual(changed.with_filter("f", ONES), NET)
        for value in any_values():
            if value is not None and not isinstance(value, Filter):
                with self.assertRaises(InvalidFeed) as caught:
                    NET.with_filter("f", value)
                self.assertEqual(caught.exception.reason, "where")
        self.refused("sent", "f", lambda: NET.with_filter("f", Filter.missing("x")))

    def test_with_feed(self):
        feed = Feed("g", "c", "h", where=ONES)
        changed = NET.with_feed(feed=feed)
        feed.where = NEVER
        self.assertEqual((changed.feeds, changed.feed("g").where, NET.feeds), (("e", "f", "g"), ONES, ("e", "f")))
        self.refused("name", "e", lambda: NET.with_feed(Feed("e", "h", "c")))
        self.refused("ends", "g", lambda: NET.with_feed(Feed("g", "h", "h")))
        net = NET
        for name in names(12, "x"):
            net = net.with_feed(Feed(name, "h", "c"))
        with self.assertRaises(TooMany) as caught:
            net.with_feed(Feed("e", "h", "c"))
        self.assertEqual(caught.exception.count, 14)

    def test_without(self):
        changed = NET.without(feed="e")
        self.assertEqual((changed.feeds, changed.sites, NET.feeds), (("f",), ("h", "c"), ("e", "f")))
        self.assertEqual(changed.without("f").feeds, ())
        self.assertEqual(changed.with_feed(Feed("e", "h", "c")).feeds, ("f", "e"))

    def test_joined(self):
        first = Net(TABLE, HOME, COPY, Feed("a", "h", "c"), Feed("b", "h", "c", where=ONES), Feed("d", "h", "c", where=LOW))
        changed = first.joined(one="b", other="a")
        self.assertEqual(changed.feeds, ("b", "d"))
        self.assertEqual(changed.feed("b").where, ONES | ALL)
        self.assertEqual(first.joined("a", "d").feed("a").where, ALL | LOW)
        self.assertEqual(first.joined("a", "d").feeds, ("a", "b"))
        self.assertEqual(first.feeds, ("a", "b", "d"))

    def test_feeds_that_cannot_be_joined(self):
        net = Net(TABLE, HOME, COPY, Site("d", "k", "r"), Feed("a", "h", "c"), Feed("b", "h", "c", own=True),
                  Feed("e", "h", "d"), Feed("f", "c", "d"), Feed("g", "d", "c"))
        for one, other in itertools.product(net.feeds, net.feeds):
            with self.assertRaises(InvalidFeed) as caught:
                net.joined(one, other)
            self.assertEqual(caught.exception.reason, "joined")

    def test_a_net_stays_as_it_was(self):
        chance = random.Random(9)
        for _ in range(40):
            net = chance_net(chance)
            same = Net.of(net.table, [*map(net.site, net.sites), *map(net.feed, net.feeds)])
            for change in (lambda: net.with_policy(net.sites[-1], "put"), lambda: net.with_filter(net.feeds[0], NEVER),
                           lambda: net.without(net.feeds[0]), lambda: net.with_feed(Feed("x", net.homes[0], net.sites[0])),
                           lambda: net.joined(net.feeds[0], net.feeds[-1])):
                try:
                    change()
                except (InvalidNet, InvalidFeed):
                    pass
                self.assertEqual(net, same)


if __name__ == "__main__":
    unittest.main()
