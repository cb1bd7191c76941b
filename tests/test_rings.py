"""Points 27, 28, 30 and 31: rings, feeds ahead, orders of flow."""

import itertools
import random
import unittest

from chances import chance_net
from examples import ALL, HIGH, LOW, NET, NEVER, ONES, RING, TABLE, chain
from speaklast.errors import InvalidNet, TooMany, UnknownName
from speaklast.feeds import Feed
from speaklast.filters import Filter
from speaklast.nets import Net
from speaklast.ranges import Ranges
from speaklast.rings import ahead, flow, rings
from speaklast.sites import Site
from values import no_names
from words import Words, leads

HUGE = NET.with_filter("f", Filter.within("k", Ranges.of(*range(0, 1000, 2))))
EVERY = ((0, 0), (0, 1), (0, 2), (0, 3))


class Asking(unittest.TestCase):
    def unknown(self, name, make):
        with self.assertRaises(UnknownName) as caught:
            make()
        self.assertIs(caught.exception.name, name)

    def too_many(self, make):
        with self.assertRaises(TooMany) as caught:
            make()
        self.assertEqual(caught.exception.count, 2002)


class RingsTest(Asking):
    """Promise 4."""

    def test_example_of_the_document(self):
        self.assertEqual([list(rings(RING, "h")), list(rings(net=NET, home="h"))], [[(("h", "a"), ((0, 0), (0, 1)))], []])

    def test_sites_in_the_order_of_the_net(self):
        net = Net(TABLE, Site("z", "k", "r"), Site("h", "k", "r", home=ALL), Site("a", "k", "r"), Feed("p", "h", "a"),
                  Feed("q", "a", "z", where=ONES), Feed("s", "z", "h"))
        self.assertEqual(list(rings(net, "h")), [(("z", "h", "a"), ((0, 1),))])

    def test_each_set_once_with_all_its_cells(self):
        net = chain(4, back=((1, 0), (3, 2), (3, 0))).with_filter("gc", ONES)
        self.assertEqual(list(rings(net, "sa")), [
            (("sa", "sb"), ((0, 0), (0, 2), (0, 3))), (("sa", "sb", "sc", "sd"), ((0, 1),)),
            (("sc", "sd"), ((0, 0), (0, 2), (0, 3)))])

    def test_ascending_by_the_places_of_the_sites(self):
        names = ["sd", "sc", "sb", "sa"]
        net = Net(TABLE, *[Site(name, "k", "r", home=ALL if name == "sa" else None) for name in names],
                  *[Feed(one + other, one, other) for one, other in (("sa", "sb"), ("sb", "sa"), ("sa", "sc"), ("sc", "sd"), ("sd", "sc"))])
        self.assertEqual([sites for sites, _ in rings(net, "sa")], [("sd", "sc"), ("sb", "sa")])

    def test_own_feeds_and_stamped_sites_are_no_part_of_a_ring(self):
        own = Net(TABLE, Site("h", "k", "r", home=ALL), Site("a", "k", "r"), Feed("p", "h", "a", own=True), Feed("q", "a", "h"))
        self.assertEqual(list(rings(own, "h")), [])
        for stamped in ("h", "a"):
            sites = [Site(name, "k", "r", home=ALL if name == "h" else None, policy="stamped" if name == stamped else "put")
                     for name in "hab"]
            feeds = [Feed("p", "h", "a", own=stamped == "a"), Feed("q", "a", "b"), Feed("s", "b", "a" if stamped == "h" else "h", own=False)]
            net = Net(TABLE, *sites, *feeds)
            self.assertEqual(list(rings(net, "h")), [(("a", "b"), ((0, 0), (0, 1)))] if stamped == "h" else [])
        both = Net(TABLE, Site("h", "k", "r", home=ALL, policy="stamped"), Site("a", "k", "r", policy="stamped"), Feed("p", "h", "a"),
                   Feed("q", "a", "h"))
        self.assertEqual(list(rings(both, "h")), [])

    def test_a_ring_that_rows_of_the_home_do_not_reach(self):
        net = Net(TABLE, Site("h", "k", "r", home=ALL), Site("a", "k", "r"), Site("b", "k", "r"), Feed("p", "a", "b"), Feed("q", "b", "a"))
        self.assertEqual(list(rings(net, "h")), [])
        self.assertEqual(list(rings(net.with_feed(Feed("e", "h", "b", own=True, where=ONES)), "h")), [(("a", "b"), ((0, 1),))])

    def test_two_homes_and_an_empty_region(self):
        def made(low, high):
            return Net(TABLE, Site("a", "k", "r", home=low), Site("b", "k", "r", home=high), Feed("p", "a", "b"), Feed("q", "b", "a", where=LOW))
        net = made(LOW, HIGH)
        self.assertEqual(list(rings(net, "a")), [(("a", "b"), ((0, 0), (0, 1)))])
        self.assertEqual(list(rings(net, "b")), [])
        self.assertEqual(list(rings(made(NEVER, HIGH), "a")), [])

    def test_errors_when_the_first_one_is_asked_for(self):
        for value in no_names() + ["c", "e"]:
            for net in (NET, HUGE):
                self.unknown(value, lambda: next(rings(net, value)))
                rings(net, value)
        self.too_many(lambda: next(rings(HUGE, "h")))

    def test_by_chance(self):
        chance, many = random.Random(22), 0
        for _ in range(300):
            net = chance_net(chance)
            for home in net.homes:
                wanted = Words(net, home).brings_rings()
                self.assertEqual(list(rings(net, home)), wanted)
                many += len(wanted)
        self.assertGreater(many, 20)


class AheadTest(Asking):
    """Promise 5: feeds ahead."""

    def test_example_of_the_document(self):
        self.assertEqual(ahead(NET, "c"), ("e", "f"))
        self.assertEqual(ahead(net=NET, site="h"), ())

    def test_whatever_comes_through(self):
        net = Net(TABLE, Site("h", "k", "r", home=NEVER), *[Site(name, "k", "r") for name in "abcd"], Feed("p", "c", "d"),
                  Feed("q", "h", "a", own=True), Feed("s", "a", "b", where=NEVER), Feed("t", "b", "a"), Feed("u", "b", "c"))
        self.assertEqual([ahead(net, site) for site in net.sites],
                         [(), ("q", "s", "t"), ("q", "s", "t"), ("q", "s", "t", "u"), ("p", "q", "s", "t", "u")])

    def test_rings_and_own_feeds(self):
        self.assertEqual([ahead(RING, site) for site in ("h", "a")], [("p", "q"), ("p", "q")])
        self.assertEqual(ahead(chain(8), "sh"), chain(8).feeds)

    def test_unknown_sites_and_many_cells(self):
        for value in no_names() + ["e"]:
            self.unknown(value, lambda: ahead(NET, value))
        self.assertEqual(ahead(HUGE, "c"), ("e", "f"))

    def test_by_chance(self):
        chance = random.Random(23)
        for _ in range(100):
            net = chance_net(chance)
            ends = [(net.feed(feed).source, net.feed(feed).target) for feed in net.feeds]
            for site in net.sites:
                wanted = [feed for feed, (_, target) in zip(net.feeds, ends) if target == site or leads(target, site, ends)]
                self.assertEqual(ahead(net, site), tuple(wanted))


class FlowTest(Asking):
    """Promise 5: orders of flow."""

    def loop(self, site, net, home):
        with self.assertRaises(InvalidNet) as caught:
            flow(net, home)
        self.assertEqual((caught.exception.reason, caught.exception.name), ("loop", site))

    def test_example_of_the_document(self):
        self.assertEqual((flow(NET, "h"), flow(net=NET, home="h")), (("h", "c"), ("h", "c")))

    def test_each_place_has_the_earliest_site_that_can_stand_there(self):
        net = Net(TABLE, *[Site(name, "k", "r") for name in "abc"], Site("h", "k", "r", home=ALL), Site("d", "k", "r"),
                  Feed("p", "h", "c"), Feed("q", "c", "a"), Feed("s", "h", "d"), Feed("t", "d", "a"), Feed("u", "h", "b", own=True))
        self.assertEqual(flow(net, "h"), ("h", "b", "c", "d", "a"))
        self.assertEqual(flow(net.with_filter("t", NEVER), "h"), ("h", "b", "c", "a", "d"))

    def test_sites_that_no_row_reaches(self):
        net = NET.with_filter("e", NEVER).with_filter("f", NEVER)
        self.assertEqual(flow(net, "h"), ("h",))
        self.assertEqual(flow(chain(5, where=ONES).with_filter("fc", Filter.missing("r")), "sa"), ("sa", "sb", "sc"))
        empty = Net(TABLE, Site("h", "k", "r", home=NEVER), Site("c", "k", "r"), Feed("e", "h", "c"), Feed("f", "c", "h"))
        self.assertEqual(flow(empty, "h"), ("h",))

    def test_two_homes(self):
        net = Net(TABLE, Site("a", "k", "r", home=LOW), Site("b", "k", "r", home=HIGH), Site("c", "k", "r"), Feed("p", "a", "b"),
                  Feed("q", "b", "c"), Feed("s", "c", "a", where=HIGH))
        self.assertEqual(flow(net, "a"), ("a", "b", "c"))
        self.loop("a", net.with_filter("p", ALL), "b")
        self.assertEqual(flow(net.with_filter("s", HIGH & ONES).with_filter("p", LOW), "b"), ("b", "c", "a"))

    def test_loops(self):
        self.loop("h", RING, "h")
        net = chain(6, back=((4, 2),))
        self.loop("sc", net, "sa")
        self.assertEqual(flow(net.with_filter("ga", NEVER), "sa"), net.sites)

    def test_loops_in_which_no_row_goes_round(self):
        """Each feed of the loop has cells, but none has them all; and a loop over an own feed."""
        net = chain(3, back=((2, 1),)).with_filter("fb", ONES)
        self.assertEqual(list(rings(net, "sa")), [(("sb", "sc"), ((0, 1),))])
        split = Net(TABLE, Site("h", "k", "r", home=ALL), Site("a", "k", "r"), Site("b", "k", "r"), Feed("e", "h", "b"), Feed("f", "h", "a"),
                    Feed("p", "a", "b", where=ONES), Feed("q", "b", "a", where=~ONES))
        self.assertEqual(list(rings(split, "h")), [])
        self.loop("a", split, "h")
        own = Net(TABLE, Site("a", "k", "r"), Site("h", "k", "r", home=ALL), Feed("p", "h", "a", own=True), Feed("q", "a", "h"))
        self.loop("a", own, "h")

    def test_errors(self):
        for value in no_names() + ["c", "e"]:
            for net in (NET, HUGE):
                self.unknown(value, lambda: flow(net, value))
        self.too_many(lambda: flow(HUGE, "h"))
        self.too_many(lambda: flow(HUGE.with_feed(Feed("g", "c", "h")), "h"))

    def test_by_chance(self):
        chance, seen = random.Random(24), []
        for _ in range(300):
            net = chance_net(chance)
            for home in net.homes:
                arrows = Words(net, home).arrows()
                loops = [site for site in net.sites if leads(site, site, arrows)]
                seen.append(bool(loops))
                if loops:
                    self.loop(loops[0], net, home)
                else:
                    sites = [site for site in net.sites if site == home or any(target == site for _, target in arrows)]
                    orders = [order for order in itertools.permutations(sites)
                              if all(order.index(one) < order.index(other) for one, other in arrows)]
                    self.assertEqual(flow(net, home), orders[0])
        self.assertGreater(min(seen.count(True), seen.count(False)), 30)


if __name__ == "__main__":
    unittest.main()
