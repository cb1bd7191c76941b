"""Point 35: mends."""

import itertools
import random
import unittest

from chances import chance_net
from examples import ALL, HIGH, LOW, NET, NEVER, ONES, RING, SOLE, TABLE, chain
from speaklast.errors import InvalidNet, TooMany
from speaklast.feeds import Feed
from speaklast.filters import Filter
from speaklast.judging import judged
from speaklast.mends import mend
from speaklast.nets import Net
from speaklast.ranges import Ranges
from speaklast.rules import failings
from speaklast.sites import Site

HUGE = NET.with_filter("f", Filter.within("k", Ranges.of(*range(0, 1000, 2))))
EVERY = {word: 1 for word in Site.POLICIES}


def words_of(net):
    return [net.site(site).policy for site in net.sites]


def with_words(net, words):
    sites = [Site.of(site, net.site(site).columns, policy=word, home=net.site(site).home) for site, word in zip(net.sites, words)]
    return Net(net.table, *sites, *[net.feed(feed) for feed in net.feeds])


def slow_mend(net, prices, falls):
    """The least pair (price, indexes), of all lists of policies; or None."""
    best = None
    for places in itertools.product(range(5), repeat=len(net)):
        words = [Site.POLICIES[at] for at in places]
        costs = [0 if word == old else prices.get(word) for word, old in zip(words, words_of(net))]
        if None in costs or (best is not None and (sum(costs), places) > best):
            continue
        try:
            changed = with_words(net, words)
        except InvalidNet:
            continue
        if not list(failings(changed, falls=falls)):
            best = (sum(costs), places)
    return best


class MendTest(unittest.TestCase):
    """Promises 1 and 2 of stage 5."""

    def mended(self, net, prices, words, price, falls=False):
        told = mend(net, prices, falls=falls)
        self.assertEqual((type(told), len(told), told[0]), (tuple, 3, "mend"), told)
        self.assertEqual((words_of(told[1]), told[2]), (words.split(), price))
        self.assertEqual(told[1], with_words(net, words.split()))
        self.assertEqual(judged(told[1], falls=falls)[0], "right")

    def none(self, net, prices, falls=False):
        self.assertEqual(mend(net, prices, falls=falls), ("none", list(failings(net, falls=falls))[0]))

    def test_example_of_the_document(self):
        told = mend(NET, {"skip": 1, "shares": 5})
        self.assertEqual([told[2], told[1].site("c").policy, mend(NET, {"skip": 1})[0]], [5, "shares", "none"])
        self.mended(NET, {"skip": 1, "shares": 5}, "put shares", 5)
        self.none(NET, {"skip": 1})
        self.assertEqual(mend(net=NET, prices={"shares": 0}, falls=True)[2], 0)

    def test_without_prices(self):
        """A net is mended exactly if it is right."""
        self.mended(NET.without("f"), {}, "put put", 0)
        self.mended(NET.without("f").with_policy("c", "wait"), {}, "put wait", 0)
        self.none(NET.without("f").with_policy("c", "wait"), {}, falls=True)
        for net in (NET, RING, NET.with_policy("c", "skip")):
            self.none(net, {})

    def test_each_site_keeps_its_policy_for_nothing(self):
        self.mended(NET.with_policy("h", "skip"), {"skip": 7, "shares": 5, "put": 9}, "skip shares", 5)
        self.mended(NET.with_policy("c", "shares"), {"shares": 9}, "put shares", 0)
        # Another policy for nothing that comes earlier goes ahead.
        self.mended(NET.without("f"), {"wait": 0}, "wait wait", 0)
        self.mended(NET.without("f"), {"skip": 0, "shares": 0, "stamped": 0}, "skip skip", 0)
        self.mended(NET.without("f"), {"shares": 0, "stamped": 0}, "put put", 0)

    def test_of_alike_sums_the_first_one(self):
        apart = NET.with_filter("f", ALL)
        self.mended(apart.with_policy("c", "wait"), EVERY, "put skip", 1)
        self.mended(NET, EVERY, "put shares", 1)
        self.mended(apart.with_policy("c", "wait"), {"put": 1, "skip": 2, "shares": 1}, "put put", 1)
        self.mended(apart.with_policy("c", "wait"), {"shares": 3, "put": 4}, "put shares", 3)

    def test_which_policies_mend_what(self):
        """Falls: all but wait. Fibres: shares and stamped, and where both bring the same all but wait."""
        waiting = NET.without("f").with_policy("c", "wait")
        for word in ("skip", "put", "shares"):
            self.mended(waiting, {word: 2}, "put " + word, 2, falls=True)
        self.mended(waiting, {"stamped": 2, "put": 1}, "put wait", 0)
        self.mended(waiting, {"stamped": 2}, "stamped stamped", 4, falls=True)
        self.mended(NET.with_policy("c", "wait"), {"skip": 1, "put": 1, "shares": 1}, "put shares", 1)
        same = NET.with_filter("f", ALL).with_policy("c", "wait")
        for word in ("skip", "put", "shares"):
            self.mended(same, {word: 3}, "put " + word, 3)

    def test_stamps(self):
        """A stamped site needs stamped sources, or own feeds of a home."""
        self.mended(NET, {"stamped": 4}, "stamped stamped", 8)
        own = Net(TABLE, NET.site("h"), NET.site("c"), Feed("e", "h", "c", own=True), Feed("f", "h", "c", own=True, where=ONES))
        self.mended(own, {"stamped": 4}, "put stamped", 4)
        self.mended(own, {"stamped": 4, "shares": 5}, "put stamped", 4)
        self.mended(own, {"stamped": 4, "shares": 4}, "put shares", 4)

    def test_rings(self):
        """A ring is mended by a stamped site in it; to share is not allowed there."""
        self.none(RING, {"wait": 0, "skip": 0, "put": 0, "shares": 0})
        self.mended(RING, {"stamped": 3, "shares": 0}, "stamped stamped", 6)
        own = Net(TABLE, RING.site("h"), RING.site("a"), Site("b", "k", "r"), Feed("p", "h", "a", own=True), Feed("q", "a", "b"), Feed("x", "b", "a"))
        self.none(own, {"wait": 0, "skip": 0, "put": 0, "shares": 0})
        self.mended(own, {"stamped": 3}, "put stamped stamped", 6)
        self.none(chain(3, back=((2, 1),)).with_policy("sa", "skip"), {"shares": 0, "put": 1})

    def test_unique_columns(self):
        net = SOLE.with_feed(Feed("f", "h", "c"))
        self.mended(net.with_policy("c", "wait"), EVERY, "put put", 1)
        self.none(SOLE.with_filter("e", LOW).with_feed(Feed("f", "h", "c", where=HIGH)), EVERY)
        self.none(SOLE.with_policy("c", "wait"), {"shares": 0, "stamped": 0, "skip": 0}, falls=True)

    def test_two_homes(self):
        net = Net(TABLE, Site("a", "k", "r", home=LOW), Site("b", "k", "r", home=HIGH), Site("c", "k", "r"), Feed("e", "a", "c", own=True),
                  Feed("f", "b", "c"),
                  Feed("g", "b", "c", where=ONES), Feed("i", "c", "a", where=HIGH))
        self.mended(net, {"shares": 10 ** 6, "stamped": 10 ** 6, "skip": 0}, "skip skip shares", 10 ** 6)

    def test_an_empty_region_and_no_feeds(self):
        empty = Net(TABLE, Site("h", "k", "r", home=NEVER, policy="wait"), Site("c", "k", "r", policy="wait"), Feed("e", "h", "c"),
                    Feed("f", "h", "c"))
        self.mended(empty, {"stamped": 0}, "wait wait", 0, falls=True)
        self.mended(chain(1), {"wait": 0}, "wait", 0)

    def test_the_dict(self):
        """The order of its keys means nothing, and it stays as it is."""
        chance = random.Random(71)
        for _ in range(40):
            net = chance_net(chance)
            pairs = [(word, chance.choice((0, 1, 2))) for word in chance.sample(Site.POLICIES, chance.randint(0, 5))]
            prices = dict(pairs)
            told = mend(net, prices)
            self.assertEqual(list(prices.items()), pairs)
            again = mend(net, dict(pairs[::-1]))
            self.assertEqual(told[0::2], again[0::2])
            self.assertEqual(told[1], again[1])

    def test_too_many_whatever_the_prices(self):
        for prices in ({}, EVERY):
            with self.assertRaises(TooMany) as caught:
                mend(HUGE, prices)
            self.assertEqual(caught.exception.count, 2002)

    def test_eight_sites(self):
        net = chain(8, back=((0, 2), (1, 3), (2, 4), (3, 5), (4, 6), (5, 7))).with_filter("gf", ONES).with_filter("gb", ONES)
        self.mended(net, {"shares": 2, "stamped": 1, "wait": 0}, "wait wait put shares put put put shares", 4)
        self.mended(net, {"stamped": 1}, " ".join(["stamped"] * 8), 8)
        self.mended(net, {"shares": 2, "skip": 0}, "skip skip skip shares skip skip skip shares", 4)

    def test_by_chance(self):
        chance, seen = random.Random(72), {}
        for _ in range(150):
            net, falls = chance_net(chance), chance.random() < 0.4
            prices = {word: chance.choice((0, 1, 1, 2, 10 ** 6)) for word in chance.sample(Site.POLICIES, chance.randint(0, 5))}
            wanted = slow_mend(net, prices, falls)
            if wanted is None:
                self.none(net, prices, falls)
            else:
                self.mended(net, prices, " ".join(Site.POLICIES[at] for at in wanted[1]), wanted[0], falls)
            kind = wanted and wanted[0] > 0
            seen[kind] = seen.get(kind, 0) + 1
        self.assertGreater(min(seen.values()), 15)
        self.assertEqual(len(seen), 3)


if __name__ == "__main__":
    unittest.main()
