"""Points 31 and 32: ways, whole and mixed states."""

import random
import unittest

from chances import chance_net
from examples import ALL, HIGH, LOW, NET, NEVER, ONES, RING, SOLE, TABLE, chain
from speaklast.cells import Grid
from speaklast.errors import InvalidNet, TooMany, UnknownName
from speaklast.feeds import Feed
from speaklast.filters import Filter
from speaklast.nets import Net
from speaklast.ranges import Ranges
from speaklast.rings import ahead, flow
from speaklast.rules import failings
from speaklast.runs import Run, play
from speaklast.sites import Site
from speaklast.tables import Table
from speaklast.ways import keeps_whole, shows_mixed, ways
from test_papers import bend
from values import any_values, no_names
from words import Words

TWICE = NET.with_filter("f", ALL)
HUGE = NET.with_filter("f", Filter.within("k", Ranges.of(*range(0, 1000, 2))))
TWOS = Filter.within("r", Ranges.between(2, None))
ONE_KEY = Filter.within("k", Ranges.of(5))
MIXED = ("mixed", (("make", "h", "insert", (0, 0)), ("make", "h", "delete", (0,)), ("make", "h", "insert", (1, 0)),
                   ("deliver", "f"), ("deliver", "f"), ("deliver", "f"), ("deliver", "e")))
# Rows come back to the home over an own feed, and go on from there a second time.
BACK = Net(TABLE, Site("h", "k", "r", home=ALL), Site("a", "k", "r"), Site("b", "k", "r"), Feed("p", "h", "a", own=True), Feed("q", "a", "h"),
           Feed("g", "h", "b"))


def slow_ways(net, home, site):
    """All ways, followed cell by cell."""
    words, found = Words(net, home), set()

    def follow(place, way, cells):
        if place == site and cells:
            found.add(way)
        for at, feed in enumerate(net.feeds):
            known = words.feeds[feed]
            left = cells & set(words.asked[feed])
            if known.source == place and at not in way and left and not (known.own and way):
                follow(known.target, way + (at,), left)
    follow(home, (), set(words.region))
    return tuple(tuple(net.feeds[at] for at in way) for way in sorted(found))


class Asking(unittest.TestCase):
    def raised(self, make, error):
        with self.assertRaises(error) as caught:
            make()
        return caught.exception


class NamesTest(Asking):
    """Promise 1: names that are none, TooMany as Grid, TooMany(200)."""

    def test_unknown_names_home_ahead_of_site(self):
        for make in (ways, keeps_whole, lambda *names: shows_mixed(*names, None)):
            for name in no_names() + ["c", "e"]:
                self.assertIs(self.raised(lambda: make(NET, name, "zz"), UnknownName).name, name)
            for name in no_names() + ["e"]:
                self.assertIs(self.raised(lambda: make(NET, "h", name), UnknownName).name, name)
                self.assertIs(self.raised(lambda: make(HUGE, "h", name), UnknownName).name, name)

    def test_too_many_cells(self):
        for make in (ways, keeps_whole, lambda *names: shows_mixed(*names, ("mixed", ()))):
            self.assertEqual(self.raised(lambda: make(HUGE, "h", "c"), TooMany).count, 2002)
        self.assertEqual(self.raised(lambda: keeps_whole(HUGE.with_policy("c", "shares"), "h", "c"), TooMany).count, 2002)
        for thing in (None, "mixed", (), ("mixed",), ("mixed", []), ["mixed", ()], ("mixed", (), ()), ("whole", ()), ("mixed", (1,))):
            self.assertIs(shows_mixed(HUGE, "h", "c", thing), False)

    def around(self, *counts):
        """Feeds from h to a, from a to b, back, from b to c, and from a to c: so many of each."""
        ends = (("h", "a"), ("a", "b"), ("b", "a"), ("b", "c"), ("a", "c"))
        feeds = [Feed(one + two + letter, one, two) for (one, two), many in zip(ends, counts) for letter in "uvwxyzabcdefg"[:many]]
        return Net(TABLE, *[Site(name, "k", "r", home=ALL if name == "h" else None) for name in "habc"], *feeds)

    def test_the_bound(self):
        self.assertEqual(len(ways(self.around(2, 3, 2, 3, 1), "h", "c")), 200)
        more = self.around(1, 2, 10, 0, 1)
        self.assertEqual(self.raised(lambda: ways(more, "h", "c"), TooMany).count, 200)
        self.assertEqual(len(slow_ways(more, "h", "c")), 201)
        layered = self.around(5, 5, 0, 4, 0)
        self.assertEqual(len(ways(layered, "h", "c")), 100)
        self.assertEqual(keeps_whole(layered, "h", "c")[0], "mixed")
        chained = chain(8, back=[(at, at + 1) for at in range(7)])
        self.assertEqual(len(ways(chained, "sa", "sh")), 128)
        self.assertEqual(keeps_whole(chained, "sa", "sh")[0], "mixed")

    def test_too_many_ways(self):
        around = Net(TABLE, Site("h", "k", "r", home=ALL), Site("a", "k", "r"), *[Feed("p" + letter, "h", "a") for letter in "abcde"],
                     *[Feed("q" + letter, "a", "h") for letter in "abcde"])
        for site in ("h", "a"):
            self.assertEqual(self.raised(lambda: ways(around, "h", site), TooMany).count, 200)
        # A reason why nothing is said of whole states goes ahead of that.
        self.assertEqual(keeps_whole(around, "h", "a"), ("none", "wrong"))


class WaysTest(Asking):
    """Promise 7."""

    def test_example_of_the_document(self):
        self.assertEqual([ways(TWICE, "h", "c"), flow(NET, "h"), ahead(NET, "c")], [(("e",), ("f",)), ("h", "c"), ("e", "f")])
        self.assertEqual(ways(net=NET, home="h", site="c"), (("e",), ("f",)))

    def test_the_empty_way(self):
        self.assertEqual(ways(NET, "h", "h"), ((),))
        self.assertEqual(ways(RING, "h", "h"), ((), ("p", "q")))
        self.assertEqual(ways(chain(1), "sa", "sa"), ((),))
        self.assertEqual(ways(NET.without("e").without("f"), "h", "c"), ())

    def test_an_empty_region_has_no_ways(self):
        empty = Net(TABLE, Site("g", "k", "r", home=NEVER), Site("h", "k", "r", home=ALL), Feed("e", "g", "h"))
        self.assertEqual([ways(empty, "g", "g"), ways(empty, "g", "h"), ways(empty, "h", "g")], [(), (), ()])

    def test_ascending_by_indexes(self):
        net = Net(TABLE, Site("h", "k", "r", home=ALL), Site("a", "k", "r"), Site("b", "k", "r"), Feed("z", "h", "b"), Feed("y", "h", "a"),
                  Feed("x", "a", "b"), Feed("w", "h", "b"), Feed("v", "b", "a", where=NEVER))
        self.assertEqual(ways(net, "h", "b"), (("z",), ("y", "x"), ("w",)))
        self.assertEqual(ways(BACK, "h", "b"), (("p", "q", "g"), ("g",)))

    def test_own_feeds_leave_their_home_alone(self):
        self.assertEqual(ways(BACK, "h", "a"), (("p",),))
        self.assertEqual(ways(BACK, "h", "h"), ((), ("p", "q")))
        net = Net(TABLE, Site("g", "k", "r", home=HIGH), Site("h", "k", "r", home=LOW), Site("c", "k", "r"), Feed("e", "h", "g"),
                  Feed("f", "g", "c", own=True), Feed("i", "g", "c"))
        self.assertEqual([ways(net, "h", "c"), ways(net, "g", "c")], [(("e", "i"),), (("f",), ("i",))])

    def test_no_feed_twice_but_sites(self):
        net = RING.with_feed(Feed("x", "h", "a"))
        self.assertEqual(ways(net, "h", "a"), (("p",), ("p", "q", "x"), ("x",), ("x", "q", "p")))

    def test_one_cell_comes_on_all_of_a_way(self):
        net = chain(3).with_filter("fa", ONES).with_filter("fb", ~ONES)
        self.assertEqual(ways(net, "sa", "sc"), ())
        both = net.with_feed(Feed("x", "sa", "sb", where=~ONES))
        self.assertEqual(ways(both, "sa", "sc"), (("x", "fb"),))

    def test_each_single_cell_counts(self):
        grid = Grid(chain(3).with_filter("fa", ONES & LOW))
        for cell in grid.cells():
            row = dict(zip(("k", "r"), grid.sample(cell)))
            below = Filter.within("r", Ranges.between(None, 0))
            values = {None: Filter.missing("r"), 0: below, 1: ONES, 2: TWOS}[row["r"]]
            just = values & LOW if row["k"] < 10 else values & HIGH
            net = chain(3).with_filter("fa", ONES & LOW | just).with_filter("fb", just)
            self.assertEqual(ways(net, "sa", "sc"), (("fa", "fb"),))

    def test_ways_that_lead_nowhere_are_not_followed(self):
        loop = Net(TABLE, *[Site(name, "k", "r", home=ALL if name == "h" else None) for name in "habz"],
                   *[Feed("e" + letter, "a", "b") for letter in "abcdef"], *[Feed("f" + letter, "b", "a") for letter in "abcdef"],
                   Feed("x", "h", "a"), Feed("y", "b", "z", where=NEVER))
        self.assertEqual(ways(loop, "h", "z"), ())

    def test_by_chance(self):
        chance, many = random.Random(51), 0
        for _ in range(300):
            net = chance_net(chance)
            for home in net.homes:
                for site in net.sites:
                    wanted = slow_ways(net, home, site)
                    self.assertEqual(ways(net, home, site), wanted)
                    many += len(wanted) > 1
        self.assertGreater(many, 60)


class WholeTest(Asking):
    """Promise 8."""

    def mixed(self, net, home, site):
        told = keeps_whole(net, home, site)
        self.assertEqual((len(told), told[0], type(told[1])), (2, "mixed", tuple), told)
        self.assertLessEqual({event[0] for event in told[1]}, {"make", "deliver"})
        self.assertLessEqual(sum(event[0] == "make" for event in told[1]), 3)
        self.assertIs(shows_mixed(net, home, site, told), True)
        self.assertTrue(self.is_mixed(net, home, site, told[1]))

    def is_mixed(self, net, home, site, events):
        """In the words of the document."""
        region, columns = net.site(home).home, net.site(site).columns

        def of_home(rows):
            return [row for row in rows if region({name: row[columns.index(name)] for name in net.table.key}) is True]
        states, made = [], Run(net)
        states.append(of_home(made.wanted(site)))
        for event in events:
            if event[:2] == ("make", home):
                made.make(*event[1:])
                states.append(of_home(made.wanted(site)))
        run = Run(net)
        play(run, events)
        return of_home(run.held(site)) not in states

    def whole(self, net, home, site):
        self.assertEqual(keeps_whole(net, home, site), ("whole",))

    def test_example_of_the_document(self):
        self.assertEqual([keeps_whole(TWICE, "h", "c")[0], keeps_whole(TWICE.without("f"), "h", "c"), keeps_whole(NET, "h", "c")],
                         ["mixed", ("whole",), ("none", "wrong")])
        self.mixed(TWICE, "h", "c")

    def test_reasons_in_their_order(self):
        sharing = NET.with_policy("c", "shares")
        self.assertEqual(keeps_whole(sharing, "h", "h"), ("none", "policy"))
        self.assertEqual(keeps_whole(SOLE, "h", "c"), ("none", "unique"))
        self.assertEqual(keeps_whole(NET, "h", "h"), ("none", "wrong"))
        stamped = Net(SOLE.table, Site("h", "k", "u", home=ALL), Site("c", "k", policy="stamped"), Feed("e", "h", "c", own=True))
        self.assertEqual(keeps_whole(stamped, "h", "c"), ("none", "policy"))
        both = SOLE.with_filter("e", LOW).with_feed(Feed("f", "h", "c"))
        self.assertEqual(keeps_whole(both, "h", "c"), ("none", "unique"))
        # Falls are not asked.
        self.whole(NET.without("f").with_policy("c", "wait"), "h", "c")

    def test_one_way_none_and_the_home(self):
        self.whole(TWICE, "h", "h")
        self.whole(NET.without("e").with_filter("f", NEVER), "h", "c")
        self.whole(chain(8), "sa", "sh")
        self.whole(TWICE.without("e").without("f"), "h", "c")

    def test_cells_of_one_key(self):
        for where in (ONE_KEY, ONE_KEY & ONES):
            self.whole(TWICE.with_filter("e", where).with_filter("f", where), "h", "c")
        two = Filter.within("k", Ranges.of(5, 6))
        self.mixed(TWICE.with_filter("e", two).with_filter("f", two), "h", "c")
        apart = TWICE.with_filter("e", ONE_KEY).with_filter("f", Filter.within("k", Ranges.of(7)))
        for word in ("put", "skip", "wait"):
            self.mixed(apart.with_policy("c", word), "h", "c")

    def test_two_key_columns(self):
        table = Table("l", "r", "k", key=("k", "l"))
        one, other = Filter.within("k", Ranges.of(1)), Filter.within("l", Ranges.of(2))
        net = Net(table, Site("h", "r", "k", "l", home=ALL), Site("c", "k", "l"), Feed("e", "h", "c", where=one), Feed("f", "h", "c", where=one))
        self.mixed(net, "h", "c")
        self.whole(net.with_filter("e", one & other).with_filter("f", one & other), "h", "c")

    def test_ways_with_common_feeds(self):
        doubled = Net(TABLE, *[Site(name, "k", "r", home=ALL if name == "h" else None) for name in "habc"], Feed("e", "h", "a"), Feed("f", "a", "b"),
                      Feed("g", "a", "b"), Feed("i", "b", "c"))
        for site, mixed in (("a", False), ("b", True), ("c", True)):
            (self.mixed if mixed else self.whole)(doubled, "h", site)

    def test_rows_that_come_back_to_their_home(self):
        for site in ("h", "b"):
            self.mixed(BACK, "h", site)
        self.whole(BACK, "h", "a")

    def test_two_homes(self):
        net = Net(TABLE, Site("g", "k", "r", home=HIGH), Site("h", "k", "r", home=LOW), Site("c", "k", "r"), Feed("e", "g", "c"), Feed("f", "h", "c"),
                  Feed("i", "h", "c"))
        self.whole(net, "g", "c")
        self.mixed(net, "h", "c")
        # What another home makes does not count, neither as shown nor as wanted; but its changes are counted.
        events = keeps_whole(net, "h", "c")[1]
        late = ("deliver", "i") if events[-1] == ("deliver", "f") else ("deliver", "f")
        self.assertNotIn(("make", "g"), [event[:2] for event in events])
        other = (("make", "g", "insert", (20, 1)), ("deliver", "e"))
        self.assertIs(shows_mixed(net, "g", "c", ("mixed", events)), False)
        self.assertIs(shows_mixed(net, "h", "c", ("mixed", events + other)), False)
        two = (("make", "h", "insert", (1, 1)), ("make", "h", "insert", (2, 1)), late, late, ("deliver", "f"))
        self.assertIs(shows_mixed(net, "h", "c", ("mixed", two + other)), False)

    def test_by_chance(self):
        chance, seen = random.Random(52), {}
        while len(seen) < 3 or min(seen.values()) < 40:
            net = self.chance_net(chance)
            right = not list(failings(net))
            for home in net.homes:
                for site in net.sites:
                    if not right:
                        self.assertEqual(keeps_whole(net, home, site), ("none", "wrong"))
                        continue
                    kind = self.wanted(net, home, site)
                    (self.mixed if kind == "mixed" else self.whole)(net, home, site)
                    seen[kind, len(slow_ways(net, home, site)) > 1] = seen.get((kind, len(slow_ways(net, home, site)) > 1), 0) + 1

    def wanted(self, net, home, site):
        words, grid = Words(net, home), Grid(net)
        cells = words.region if site == home else []
        cells = cells + [cell for feed in net.into(site) for cell in words.asked[feed]]
        one_key = len({tuple(words.part(cell, net.table.key)) for cell in cells}) < 2 and not any(grid.sample(cell, other=True) for cell in cells)
        return "whole" if len(slow_ways(net, home, site)) < 2 or one_key else "mixed"

    def chance_net(self, chance):
        regions = chance.choice(((ALL,), (LOW, HIGH), (ONE_KEY,)))
        names = "hgabc"[:len(regions)] + "abc"[:chance.randint(1, 3)]
        sites = [Site(name, "k", "r", policy=chance.choice(("put", "put", "skip", "wait")), home=regions[at] if at < len(regions) else None)
                 for at, name in enumerate(names)]
        feeds = []
        for letter in "uvwxyz"[:chance.randint(1, 6)]:
            source, target = sorted(chance.sample(range(len(names)), 2)) if chance.random() < 0.7 else chance.sample(range(len(names)), 2)
            feeds.append(Feed(letter, names[source], names[target], where=chance.choice((ALL, ALL, LOW, ONE_KEY)),
                              own=source < len(regions) and chance.random() < 0.4))
        try:
            return Net(TABLE, *sites, *feeds)
        except InvalidNet:
            return self.chance_net(chance)


class ShowsMixedTest(Asking):
    """Promise 8: any value is asked."""

    def refused(self, thing, net=TWICE):
        self.assertIs(shows_mixed(net, "h", "c", thing), False)

    def test_bent_in_one_place(self):
        self.assertIs(shows_mixed(net=TWICE, home="h", site="c", thing=MIXED), True)
        events = MIXED[1]
        for at in (0, 1, 2, 6):
            self.refused(bend(MIXED, (1,), events[:at] + events[at + 1:]))
        for at in range(len(events)):
            self.refused(bend(MIXED, (1, at), list(events[at])))
            self.refused(bend(MIXED, (1, at), events[at] + ("e",)))
        self.refused(bend(MIXED, (1,), events + (("deliver", "e"),)))
        self.refused(bend(MIXED, (1,), list(events)))
        self.refused(bend(MIXED, (0,), "whole"))
        self.refused(MIXED + (1,))
        self.refused(list(MIXED))
        self.refused(bend(MIXED, (1,), events + (("fall", "e", 1), ("deliver", "e"))))
        self.refused(bend(MIXED, (1, 6, 1), "f"))
        self.assertIs(shows_mixed(TWICE, "h", "h", MIXED), False)

    def test_changes_are_counted(self):
        more = (("make", "h", "update", (1, 0)),)
        self.refused(bend(MIXED, (1,), MIXED[1][:3] + more + MIXED[1][3:]))

    def test_any_values(self):
        for thing in any_values():
            self.refused(thing)
            for place in ((0,), (1,), (1, 0), (1, 0, 0), (1, 0, 1), (1, 0, 2), (1, 0, 3), (1, 5, 1)):
                self.refused(bend(MIXED, place, thing))

    def test_nets_that_are_not_as_stated(self):
        for net in (TWICE.with_policy("c", "shares"), TWICE.with_policy("c", "wait"), TWICE.with_feed(Feed("g", "h", "c", where=ONES))):
            self.refused(MIXED, net)
        unique = Net(Table("k", "r", key=("k",), unique=("r",)), *[TWICE.site(site) for site in TWICE.sites], TWICE.feed("e"), TWICE.feed("f"))
        self.refused(MIXED, unique)

    def test_five_thousand_events(self):
        """More of them have not the form: so TooMany is not raised."""
        events = (("deliver", "e"),) * 5000
        self.assertEqual(self.raised(lambda: shows_mixed(HUGE, "h", "c", ("mixed", events)), TooMany).count, 2002)
        self.refused(("mixed", events + events[:1]), HUGE)
        self.refused(("mixed", events))


if __name__ == "__main__":
    unittest.main()
