"""Points 16 and 28: judgements, and what is promised of nets that are judged right."""

import random
import unittest

from chances import chance_net, chance_row, drive_by_chance, settle_by_chance
from examples import ALL, HIGH, LOW, NET, NEVER, RING, TABLE, chain
from orders import Orders
from speaklast.cells import Grid
from speaklast.errors import InvalidFeed, TooMany
from speaklast.feeds import Feed
from speaklast.filters import Filter
from speaklast.judging import judged
from speaklast.nets import Net
from speaklast.papers import shows_right
from speaklast.ranges import Ranges
from speaklast.rules import failings
from speaklast.runs import Run
from speaklast.sites import Site
from speaklast.wrongs import shows_wrong
from words import Words

HUGE = NET.with_filter("f", Filter.within("k", Ranges.of(*range(0, 1000, 2))))


def end_right(test, chance, net, falls, events=25):
    """A run by chance, which ends right."""
    run = Run(net)
    drive_by_chance(chance, run, falls, events)
    test.assertIs(settle_by_chance(chance, run, most=3000), True)
    test.assertEqual((run.stuck, [run.right(site) for site in net.sites]), ((), [True] * len(net)))


class JudgedTest(unittest.TestCase):
    """Promise 2: judged right exactly if nothing fails, with a paper or a wrong run."""

    def judge(self, net, falls):
        told = judged(net, falls=falls)
        self.assertIsInstance(told, tuple)
        if list(failings(net, falls=falls)):
            self.assertEqual((len(told), told[0]), (3, "wrong"))
            self.assertIs(shows_wrong(net, told, falls=falls), True)
        else:
            self.assertEqual((len(told), told[0]), (2, "right"))
            self.assertIs(shows_right(net, told, falls=falls), True)
            self.paper_holds(net, told[1])
        return told[0]

    def paper_holds(self, net, rows):
        """The words of point 28, entry by entry."""
        self.assertEqual([row[:2] for row in rows], [(home, feed) for home in net.homes for feed in net.feeds])
        for home in net.homes:
            words = Words(net, home)
            entries = {feed: dict(told) for other, feed, told in rows if other == home}
            for _, feed, told in [row for row in rows if row[0] == home]:
                known = net.feed(feed)
                self.assertEqual([cell for cell, _ in told], sorted(set(cell for cell, _ in told)))
                self.assertEqual([cell for cell, _ in told], words.asked[feed])
                for cell, number in told:
                    self.assertTrue(type(number) is int and number >= 1 and words.passes[feed, cell])
                    if known.source == home:
                        self.assertIn(cell, words.region)
                    else:
                        before = [entries[other][cell] for other in net.into(known.source) if cell in entries[other]]
                        self.assertTrue(not known.own and before and min(before) < number)

    def test_examples_of_the_document(self):
        self.assertEqual(judged(NET.with_filter("f", ALL))[0], "right")
        self.assertEqual([judged(NET)[0], len(judged(NET))], ["wrong", 3])

    def test_falls_asked_and_not_asked(self):
        waiting = NET.without("f").with_policy("c", "wait")
        self.assertEqual([self.judge(waiting, False), self.judge(waiting, True)], ["right", "wrong"])
        self.assertEqual(judged(net=waiting, falls=False)[0], "right")
        for net in (NET.without("f"), NET.with_policy("c", "shares"), chain(8)):
            self.assertEqual([self.judge(net, False), self.judge(net, True)], ["right", "right"])

    def test_papers_of_nets_with_ways_that_go_round(self):
        stamped = Net(TABLE, *[Site(name, "k", "r", policy="stamped", home=ALL if name == "h" else None) for name in "habc"],
                      Feed("e", "a", "b"), Feed("f", "b", "a"), Feed("g", "b", "c"), Feed("i", "h", "b"), Feed("j", "c", "h"))
        self.assertEqual(self.judge(stamped, True), "right")
        idle = RING.with_filter("p", NEVER)
        self.assertEqual(judged(idle), ("right", (("h", "p", ()), ("h", "q", ()))))

    def test_two_homes_own_feeds_and_an_empty_region(self):
        net = Net(TABLE, Site("g", "k", "r", home=HIGH), Site("h", "k", "r", home=LOW), Site("c", "k", "r"), Feed("e", "h", "g"),
                  Feed("f", "g", "c", own=True), Feed("i", "h", "c"))
        self.assertEqual(self.judge(net, True), "right")
        empty = Net(TABLE, Site("g", "k", "r", home=NEVER), Site("h", "k", "r", home=LOW), Feed("e", "h", "g"), Feed("f", "g", "h", own=True))
        self.assertEqual(judged(empty)[1][0], ("g", "e", ()))
        self.assertEqual(self.judge(empty, True), "right")

    def test_no_feeds(self):
        self.assertEqual(judged(chain(1), falls=True), ("right", ()))

    def test_too_many(self):
        with self.assertRaises(TooMany) as caught:
            judged(HUGE)
        self.assertEqual(caught.exception.count, 2002)

    def test_fifteen_hundred_cells(self):
        net = NET.with_filter("f", Filter.within("k", Ranges.of(*range(0, 374 * 2, 2))))
        self.assertEqual(Grid(net).size, 749 * 2)
        self.assertEqual(self.judge(net, False), "right")
        self.assertEqual(self.judge(net.with_policy("c", "wait"), False), "wrong")

    def test_by_chance(self):
        chance, seen = random.Random(41), {}
        for _ in range(400):
            net, falls = chance_net(chance), chance.random() < 0.5
            told = self.judge(net, falls)
            seen[told] = seen.get(told, 0) + 1
        self.assertGreater(min(seen.values()), 60)


class RightNetsTest(unittest.TestCase):
    """Promise 3 of stage 4: what is judged right ends right."""

    def test_by_chance(self):
        chance, many = random.Random(42), 0
        while many < 80:
            net, falls = chance_net(chance), chance.random() < 0.5
            if judged(net, falls=falls)[0] == "right":
                many += 1
                end_right(self, chance, net, falls)

    def test_all_orders_of_small_nets(self):
        """No history of two changes and no order of deliveries ends wrong; a fall is tried where falls are asked."""
        chance, many = random.Random(43), 0
        while many < 25:
            net, falls = chance_net(chance), chance.randrange(2)
            if len(net.feeds) > 2 or judged(net, falls=bool(falls))[0] == "wrong":
                continue
            rows = [chance_row(chance, net.table) for _ in range(2)]
            changes = [(home, word, row) for home in net.homes for word in ("insert", "update") for row in rows]
            changes += [(home, "delete", net.table.key_of(row)) for home in net.homes for row in rows]
            orders = Orders(net, changes, 2, falls)
            self.assertIsNone(orders.least)
            many += orders.done and len(orders.seen) > 10


class StaysRightTest(unittest.TestCase):
    """Promise 3 of stage 5: joined, doubled and left out feeds, and sites that share."""

    def right_nets(self, seed, many):
        chance = random.Random(seed)
        while many:
            net = chance_net(chance)
            falls = chance.random() < 0.5
            if not list(failings(net, falls=falls)):
                many -= 1
                yield chance, net, falls

    def judged_right(self, chance, net, falls):
        self.assertEqual(list(failings(net, falls=falls)), [])
        self.assertEqual(judged(net, falls=falls)[0], "right")
        end_right(self, chance, net, falls)

    def test_joined(self):
        """Two feeds side by side say no more together than each by itself did, and only one of them speaks."""
        seen = 0
        for chance, net, falls in self.right_nets(44, 150):
            for one in net.feeds:
                for other in net.feeds:
                    try:
                        joined = net.joined(one, other)
                    except InvalidFeed:
                        continue
                    self.judged_right(chance, joined, falls)
                    seen += 1
        self.assertGreater(seen, 3)
        apart = NET.with_filter("e", LOW).with_filter("f", HIGH)
        for word in ("put", "skip", "wait"):
            self.judged_right(random.Random(45), apart.with_policy("c", word).joined("e", "f"), False)

    def test_doubled(self):
        """A feed beside one with the same filter does no harm where nothing waits."""
        for chance, net, falls in self.right_nets(46, 60):
            feed = net.feed(chance.choice(net.feeds))
            if net.site(feed.target).policy != "wait":
                doubled = net.with_feed(Feed("zz", feed.source, feed.target, where=feed.where, own=feed.own))
                self.judged_right(chance, doubled, falls)
        doubled = NET.with_filter("f", ALL)
        self.assertEqual([list(failings(doubled.with_policy("c", word))) == [] for word in ("put", "skip", "wait")], [True, True, False])

    def test_left_out_side_by_side(self):
        """Of two feeds with the same rows one may be left out."""
        doubled = NET.with_filter("f", ALL)
        for feed in ("e", "f"):
            self.judged_right(random.Random(47), doubled.without(feed), True)

    def test_left_out_with_nothing_behind(self):
        """A feed into a site out of which nothing leads: what the others bring there does not fail either."""
        for chance, net, falls in self.right_nets(48, 60):
            for feed in net.feeds:
                if not list(net.out_of(net.feed(feed).target)):
                    self.judged_right(chance, net.without(feed), falls)

    def test_a_site_that_shares(self):
        """A site that shares never fails, where it may share."""
        seen = 0
        for chance, net, falls in self.right_nets(49, 80):
            for site in net.sites:
                if net.table.unique or net.site(site).policy == "stamped":
                    continue
                try:
                    sharing = net.with_policy(site, "shares")
                except ValueError:
                    continue
                self.judged_right(chance, sharing, falls)
                seen += 1
        self.assertGreater(seen, 40)


if __name__ == "__main__":
    unittest.main()
