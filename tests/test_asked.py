"""Points 2, 11, 13, 14 and 26: cells that come through, and one row made."""

import random
import unittest

from chances import chance_net, deliver_by_chance
from examples import ALL, HIGH, LOW, NET, NEVER, ONES, RING, TABLE, WIDE, chain
from speaklast.asked import asked, speakers
from speaklast.cells import Grid
from speaklast.errors import TooMany, UnknownName
from speaklast.feeds import Feed
from speaklast.filters import Filter
from speaklast.nets import Net
from speaklast.ranges import Ranges
from speaklast.runs import Run
from speaklast.sites import Site
from values import no_names
from words import Words

HUGE = NET.with_filter("f", Filter.within("k", Ranges.of(*range(0, 1000, 2))))


class Asking(unittest.TestCase):
    def unknown(self, name, make):
        with self.assertRaises(UnknownName) as caught:
            make()
        self.assertIs(caught.exception.name, name)


class AskedTest(Asking):
    """Promise 1 of the cells that come through."""

    def test_example_of_the_document(self):
        self.assertEqual([asked(NET, "f", "h"), asked(NET, "e", "h"), speakers(NET, "c", "h"), speakers(NET, "h", "h")],
                         [((0, 1),), ((0, 0), (0, 1), (0, 2), (0, 3)), ("e", "f"), ("",)])

    def test_names_of_arguments(self):
        self.assertEqual(asked(net=NET, feed="", home="h"), ((0, 0), (0, 1), (0, 2), (0, 3)))
        self.assertEqual(speakers(net=NET, site="c", home="h"), ("e", "f"))

    def test_feeds_that_go_round(self):
        """Nothing that only goes round is asked: the way starts at the home."""
        sites = [Site("h", "k", "r", home=LOW), *[Site(name, "k", "r") for name in "abc"]]
        feeds = [Feed("p", "h", "a", where=ONES), Feed("q", "a", "b"), Feed("s", "b", "a"), Feed("t", "b", "c"), Feed("u", "c", "h")]
        net = Net(TABLE, *sites, *feeds, Feed("v", "c", "b", where=Filter.missing("r")))
        for feed in "pqstu":
            self.assertEqual(asked(net, feed, "h"), ((0, 1),))
        self.assertEqual(asked(net, "v", "h"), ())
        self.assertEqual(speakers(net, "h", "h"), ("", "u"))
        self.assertEqual(speakers(net, "b", "h"), ("q",))
        self.assertEqual(asked(RING, "q", "h"), ((0, 0), (0, 1)))
        self.assertEqual(asked(net.with_filter("p", NEVER), "q", "h"), ())

    def test_rows_that_come_back_pass_on_other_feeds_of_the_home(self):
        net = RING.with_feed(Feed("s", "h", "a", own=True, where=ONES)).with_filter("q", ONES)
        self.assertEqual([asked(net, feed, "h") for feed in ("p", "q", "s")],
                         [((0, 0), (0, 1), (0, 2), (0, 3)), ((0, 1),), ((0, 1),)])

    def test_own_feeds_and_two_homes(self):
        net = Net(TABLE, Site("b", "k", "r", home=HIGH), Site("a", "k", "r", home=LOW), Site("c", "k", "r"),
                  Feed("p", "a", "b"), Feed("q", "b", "c", own=True), Feed("s", "b", "c"), Feed("t", "a", "c", own=True, where=ONES))
        low, high = ((0, 0), (0, 1), (0, 2), (0, 3)), ((1, 0), (1, 1), (1, 2), (1, 3))
        self.assertEqual([asked(net, feed, "a") for feed in ("", "p", "q", "s", "t")], [low, low, (), low, ((0, 1),)])
        self.assertEqual([asked(net, feed, "b") for feed in ("", "p", "q", "s", "t")], [high, (), high, high, ()])
        self.assertEqual([speakers(net, site, "a") for site in net.sites], [("p",), ("",), ("s", "t")])
        self.assertEqual([speakers(net, site, "b") for site in net.sites], [("",), (), ("q", "s")])

    def test_an_empty_region(self):
        net = Net(TABLE, Site("h", "k", "r", home=NEVER), Site("g", "k", "r", home=Filter.missing("k")), Site("c", "k", "r"),
                  Feed("e", "h", "c"), Feed("f", "c", "h"))
        self.assertEqual([asked(net, feed, home) for home in "hg" for feed in ("", "e", "f")], [()] * 6)
        self.assertEqual([speakers(net, site, "h") for site in "hgc"], [("",), (), ()])

    def test_chains_of_eight_sites(self):
        net = chain(8, back=((7, 0), (3, 1)))
        every = asked(net, "", "sa")
        for feed in net.feeds:
            self.assertEqual(asked(net, feed, "sa"), every)
        for at in range(7):
            cut = net.with_filter(net.feeds[at], ONES)
            self.assertEqual([len(asked(cut, feed, "sa")) for feed in cut.feeds[:7]], [4] * at + [1] * (7 - at))

    def test_the_first_cell_alone(self):
        net = chain(5, where=Filter.within("r", Ranges.between(None, 0)))
        self.assertEqual([asked(net, feed, "sa") for feed in net.feeds], [((0, 0),)] * 4)
        self.assertEqual([speakers(net, site, "sa") for site in net.sites], [("",), ("fa",), ("fb",), ("fc",), ("fd",)])

    def test_fewer_columns_and_other_orders(self):
        self.assertEqual(asked(WIDE, "lc", "low"), tuple((a, 0, 1, 0) for a in range(3)))
        self.assertEqual(asked(WIDE, "le", "high"), tuple((1, 1, r, 0) for r in range(4)))

    def test_unknown_names(self):
        for value in no_names() + ["h", "c"]:
            if value != "":
                self.unknown(value, lambda: asked(NET, value, "zz"))
        for value in no_names() + ["c", "e"]:
            for feed in ("", "e"):
                self.unknown(value, lambda: asked(NET, feed, value))
            self.unknown(value, lambda: speakers(NET, "c", value))
            self.unknown(value, lambda: asked(HUGE, "", value))
            self.unknown(value, lambda: speakers(HUGE, "c", value))
        for value in no_names() + ["e", ""]:
            self.unknown(value, lambda: speakers(NET, value, "zz"))
            self.unknown(value, lambda: speakers(HUGE, value, "h"))

    def test_too_many(self):
        for make in (lambda: asked(HUGE, "", "h"), lambda: asked(HUGE, "e", "h"), lambda: speakers(HUGE, "c", "h")):
            with self.assertRaises(TooMany) as caught:
                make()
            self.assertEqual(caught.exception.count, 2002)

    def test_fifteen_hundred_cells(self):
        net = NET.with_filter("f", Filter.within("k", Ranges.of(*range(0, 748, 2)))).with_filter("e", ALL)
        self.assertEqual((Grid(net).size, len(asked(net, "f", "h")), len(asked(net, "e", "h"))), (1498, 748, 1498))

    def test_by_chance(self):
        chance = random.Random(16)
        for _ in range(200):
            net = chance_net(chance)
            for home in net.homes:
                words = Words(net, home)
                for feed in ("", *net.feeds):
                    self.assertEqual(asked(net, feed, home), tuple(words.asked[feed]))
                for site in net.sites:
                    self.assertEqual(speakers(net, site, home), tuple(words.speakers(site)))


class OneRowTest(Asking):
    """Promise 2: behind one insert, in any order of deliveries."""

    def check(self, chance, net, most):
        grid = Grid(net)
        for home in net.homes:
            for cell in [cell for cell in grid.cells() if cell in asked(net, "", home)][:most]:
                run, row = Run(net), grid.sample(cell)
                run.make(home, "insert", row)
                while deliver_by_chance(chance, run):
                    self.assertLess(len(run), 200)
                for site in net.sites:
                    comes = site == home or any(cell in asked(net, feed, home) for feed in net.into(site))
                    wanted = (net.table.cut(row, net.site(site).columns),) if comes else ()
                    self.assertEqual((run.held(site), run.wanted(site)), (wanted, wanted))

    def test_the_nets_of_the_examples(self):
        chance = random.Random(17)
        for net in (NET, RING, WIDE, chain(8, back=((7, 0),)), chain(4, policy="wait", back=((3, 1),)), chain(5, policy="skip", back=((4, 2),))):
            for _ in range(4):
                self.check(chance, net, 40)

    def test_by_chance(self):
        chance = random.Random(18)
        for _ in range(120):
            self.check(chance, chance_net(chance), 6)


if __name__ == "__main__":
    unittest.main()
