"""Points 29 and 30: wrong runs."""

import random
import unittest

from chances import chance_net
from examples import ALL, HIGH, LOW, NET, NEVER, ONES, RING, SOLE, TABLE, chain
from orders import Orders
from speaklast.cells import Grid
from speaklast.errors import InvalidNet, TooMany
from speaklast.feeds import Feed
from speaklast.filters import Filter
from speaklast.nets import Net
from speaklast.ranges import Ranges
from speaklast.rings import rings
from speaklast.rules import failings
from speaklast.runs import Run, play
from speaklast.sites import Site
from speaklast.tables import Table
from speaklast.wrongs import fewest_changes, shows_wrong, wrong_run
from test_papers import bend
from values import any_values

TWOS = Filter.within("r", Ranges.of(2))
HUGE = NET.with_filter("f", Filter.within("k", Ranges.of(*range(0, 1000, 2))))
MADE = (("make", "h", "insert", (0, 1)), ("make", "h", "update", (0, 0)))
WRONG = ("wrong", MADE + (("deliver", "e"), ("deliver", "e"), ("deliver", "f"), ("deliver", "f")), ("site", "c"))
WAITING = NET.with_policy("c", "wait")
BLOCKED = ("wrong", (MADE[0], ("deliver", "e")), ("waits", "f"))
FALLING = WAITING.without("f")
FALLEN = ("wrong", (MADE[0], ("deliver", "e"), ("fall", "e", 1)), ("waits", "e"))
ROUND = ("wrong", (("make", "h", "insert", (3, 1)), ("make", "h", "delete", (3,))), ("round", ("p", "p", "q", "q")))


def changes_in(wrong):
    return sum(event[0] == "make" for event in wrong[1])


class Asking(unittest.TestCase):
    def ends_wrong(self, net, falls=False, changes=None):
        """The wrong run of a net, which is checked word by word."""
        wrong = wrong_run(net, falls=falls)
        self.assertIsInstance(wrong, tuple)
        self.assertEqual((len(wrong), wrong[0], type(wrong[1])), (3, "wrong", tuple))
        self.assertLessEqual(len(wrong[1]), 5000)
        self.assertLessEqual({event[0] for event in wrong[1]}, {"make", "deliver", "fall"})
        self.assertLessEqual(changes_in(wrong), 3)
        self.assertLessEqual(sum(event[0] == "fall" for event in wrong[1]), 1 if falls else 0)
        run = Run(net)
        play(run, wrong[1])
        self.assertTrue(self.holds(net, run, *wrong[2]), wrong)
        self.assertIs(shows_wrong(net, wrong, falls=falls), True)
        if changes is not None:
            self.assertEqual(changes_in(wrong), changes)
        return wrong

    def leading(self, net, site):
        found = [feed for feed in net.feeds if net.feed(feed).target == site]
        for feed in found:
            found += [other for other in net.feeds if net.feed(other).target == net.feed(feed).source and other not in found]
        return found

    def holds(self, net, run, word, thing):
        if word == "round":
            before = [(run.held(net.feed(feed).target), run.pending(feed)) for feed in thing]
            self.assertTrue(1 <= len(thing) <= 500)
            for _ in range(3):
                for feed in thing:
                    run.deliver(feed)
                self.assertEqual([(run.held(net.feed(feed).target), run.pending(feed)) for feed in thing], before)
            return not {net.site(net.feed(feed).target).policy for feed in thing} & {"shares", "stamped"}
        site = thing if word == "site" else net.feed(thing).target
        left = [feed for feed in self.leading(net, site) if run.pending(feed)]
        if word == "site":
            return not left and not run.right(site)
        return word == "waits" and thing in run.stuck and all(feed in run.stuck for feed in left)


class WrongRunTest(Asking):
    """Promise 4: each kind of failing is shown."""

    def test_examples_of_the_document(self):
        self.assertEqual([shows_wrong(NET, WRONG), shows_wrong(NET.with_policy("c", "shares"), WRONG)], [True, False])
        self.assertIs(shows_wrong(RING, ROUND), True)
        self.ends_wrong(NET, changes=2)

    def test_none_of_a_right_net(self):
        for net in (NET.with_filter("f", ALL), NET.with_policy("c", "shares"), chain(8), NET.without("f"), FALLING):
            self.assertIsNone(wrong_run(net))
        self.assertIsNone(wrong_run(net=NET.without("f"), falls=True))

    def test_the_five_policies(self):
        for word in ("skip", "put"):
            self.assertEqual(self.ends_wrong(NET.with_policy("c", word), changes=2)[2], ("site", "c"))
        self.assertEqual(self.ends_wrong(WAITING, changes=1)[2][0], "waits")
        apart = WAITING.with_filter("e", TWOS)
        self.assertEqual(self.ends_wrong(apart, changes=2)[2][0], "waits")
        stamped = Net(TABLE, NET.site("h"), Site("c", "k", "r", policy="stamped"), Feed("e", "h", "c", own=True),
                      Feed("f", "h", "c", own=True, where=ONES))
        self.assertIsNone(wrong_run(stamped, falls=True))
        self.assertIsNone(wrong_run(NET.with_policy("c", "shares"), falls=True))

    def test_falls_asked_and_not_asked(self):
        self.assertIsNone(wrong_run(FALLING))
        wrong = self.ends_wrong(FALLING, falls=True, changes=1)
        self.assertEqual((wrong[1][-1], wrong[2]), (("fall", "e", 1), ("waits", "e")))
        self.ends_wrong(WAITING, falls=True, changes=1)

    def test_fixed_columns_and_keys_that_come_once(self):
        for reuse in (True, False):
            table = Table("k", "r", key=("k",), fixed=("r",), reuse=reuse)
            net = Net(table, Site("h", "k", "r", home=ALL), Site("c", "k", "r"), Feed("e", "h", "c", where=TWOS), Feed("f", "h", "c", where=ONES))
            for word in ("put", "skip", "wait"):
                if reuse:
                    self.ends_wrong(net.with_policy("c", word), changes=3)
                else:
                    self.assertIsNone(wrong_run(net.with_policy("c", word)))
        once = Net(Table("k", "r", key=("k",), reuse=False), Site("h", "k", "r", home=ALL), Site("c", "k", "r"),
                   Feed("e", "h", "c", where=TWOS), Feed("f", "h", "c", where=ONES))
        self.ends_wrong(once, changes=2)

    def test_one_value_of_two_keys(self):
        net = SOLE.with_filter("e", LOW).with_feed(Feed("f", "h", "c", where=HIGH))
        for word, ending in (("put", ("site", "c")), ("wait", None)):
            wrong = self.ends_wrong(net.with_policy("c", word), changes=3)
            self.assertIn(wrong[2], (ending,) if ending else (("waits", "e"), ("waits", "f")))
        two = Filter.within("k", Ranges.between(1, 2))
        self.ends_wrong(SOLE.with_filter("e", two).with_feed(Feed("f", "h", "c", where=Filter.within("k", Ranges.of(2)))), changes=3)

    def test_the_home_itself_ends_wrong(self):
        for word, changes in (("put", 2), ("skip", 2), ("wait", 1)):
            net = Net(TABLE, Site("h", "k", "r", home=ALL, policy=word), Site("s", "k", "r", policy="stamped"),
                      Feed("e", "h", "s", own=True, where=ONES), Feed("f", "s", "h"))
            self.assertEqual(self.ends_wrong(net, changes=changes)[2], ("waits", "f") if word == "wait" else ("site", "h"))

    def test_two_homes(self):
        net = Net(TABLE, Site("a", "k", "r", home=LOW), Site("b", "k", "r", home=HIGH), Site("c", "k", "r"), Feed("e", "a", "c"),
                  Feed("f", "a", "c"), Feed("g", "b", "c"), Feed("i", "b", "c", where=ONES))
        wrong = self.ends_wrong(net, changes=2)
        self.assertEqual({event[1] for event in wrong[1] if event[0] == "make"}, {"b"})
        self.assertIsNone(wrong_run(net.without("i")))

    def test_an_empty_region_shows_nothing(self):
        net = Net(TABLE, Site("h", "k", "r", home=NEVER, policy="wait"), Site("c", "k", "r", policy="wait"), Feed("e", "h", "c"),
                  Feed("f", "h", "c"), Feed("g", "c", "h"))
        self.assertIsNone(wrong_run(net, falls=True))
        self.assertEqual(fewest_changes(net, falls=True), 0)

    def test_too_many(self):
        for make in (wrong_run, fewest_changes):
            with self.assertRaises(TooMany) as caught:
                make(HUGE)
            self.assertEqual(caught.exception.count, 2002)


class HiddenTest(Asking):
    """Promise 4: failings that hide one another."""

    def test_a_site_behind_one_that_waits(self):
        """Only the first of both can be shown with one change: what it holds up never comes to the other one."""
        net = Net(TABLE, Site("h", "k", "r", home=ALL), Site("a", "k", "r", policy="wait"), Site("b", "k", "r"), Feed("e", "h", "a"),
                  Feed("f", "h", "a", where=ONES), Feed("g", "a", "b"), Feed("i", "a", "b", where=ONES))
        self.ends_wrong(net, changes=1)
        self.ends_wrong(net.without("f"), changes=2)

    def test_sites_that_feed_each_other_with_other_rows(self):
        """Rows with 1 go from a to b, rows with 2 back: no ring, but both sites fail, and each lies ahead of the other."""
        for words in (("put", "put"), ("skip", "put"), ("wait", "put"), ("put", "wait"), ("skip", "wait"), ("wait", "wait")):
            net = Net(TABLE, Site("h", "k", "r", home=ALL), Site("a", "k", "r", policy=words[0]), Site("b", "k", "r", policy=words[1]),
                      Feed("e", "h", "a", where=ONES), Feed("f", "h", "b", where=TWOS), Feed("g", "a", "b", where=ONES),
                      Feed("i", "b", "a", where=TWOS))
            self.assertEqual(list(rings(net, "h")), [])
            self.ends_wrong(net, changes=2)

    def knot(self, chance):
        """A net with one key, whose sites feed each other with rows of one value or another."""
        unique = ("u",) if chance.random() < 0.3 else ()
        table = Table("k", "r", "u", key=("k",), unique=unique, fixed=("r",) if chance.random() < 0.25 else (), reuse=chance.random() < 0.7)
        words = ("put", "wait") if unique else chance.choice((("put", "wait"), ("wait", "skip", "put"), ("wait",), ("wait", "skip", "put", "shares")))
        names = ["h"] + ["s" + letter for letter in "abcdef"[:chance.randint(2, 6)]]
        sites = [Site(name, *table.columns, policy=chance.choice(words), home=ALL if name == "h" else None) for name in names]
        feeds = []
        for letter in "abcdefghijklmn"[:chance.randint(4, 14)]:
            source, target = chance.sample(names, 2)
            if target == "h" or chance.random() < 0.3:
                source, target = "h", target if target != "h" else source
            where = Filter.within("r", Ranges.of(*chance.choice(((1,), (2,), (1, 2), (3,), (1, 3), (0, 1, 2, 3)))))
            if unique and chance.random() < 0.5:
                where = Filter.within("k", Ranges.of(*chance.choice(((1,), (2,), (1, 2)))))
            feeds.append(Feed("f" + letter, source, target, where=where, own=source == "h" and chance.random() < 0.5))
        try:
            return Net(table, *sites, *feeds)
        except InvalidNet:
            return self.knot(chance)

    def test_knots_by_chance(self):
        chance, seen = random.Random(31), {}
        for _ in range(1200):
            net = self.knot(chance)
            found = list(failings(net))
            if found:
                wrong = self.ends_wrong(net)
                self.assertGreaterEqual(changes_in(wrong), fewest_changes(net))
                seen[found[0][0], wrong[2][0]] = seen.get((found[0][0], wrong[2][0]), 0) + 1
            else:
                self.assertIsNone(wrong_run(net))
        self.assertLessEqual({("fibre", "site"), ("fibre", "waits"), ("value", "site"), ("value", "waits"), ("ring", "round")}, set(seen))

    def test_nets_by_chance(self):
        chance, seen = random.Random(32), {}
        for _ in range(400):
            net = chance_net(chance)
            for falls in (False, True):
                if list(failings(net, falls=falls)):
                    wrong = self.ends_wrong(net, falls)
                    self.assertGreaterEqual(changes_in(wrong), fewest_changes(net, falls=falls))
                    seen[changes_in(wrong)] = seen.get(changes_in(wrong), 0) + 1
                else:
                    self.assertIsNone(wrong_run(net, falls=falls))
        self.assertEqual(set(seen), {1, 2, 3})

    def test_many_ways(self):
        """Fourteen feeds in layers of two: the last site ends wrong."""
        doubled = chain(8, back=[(at, at + 1) for at in range(7)])
        self.assertIsNone(wrong_run(doubled))
        for word in ("put", "skip"):
            self.ends_wrong(doubled.with_policy("sh", word).with_filter("gg", ONES), changes=2)
        for at, feed in enumerate(doubled.feeds):
            self.ends_wrong(doubled.with_filter(feed, ONES), changes=2)


class RoundTest(Asking):
    """Promise 6: rings that go round."""

    def test_rings_in_and_behind_the_home(self):
        for net in (RING, chain(3, back=((2, 1),)), chain(3, back=((2, 0),)), chain(8, back=((7, 3),))):
            for word in ("put", "skip", "wait"):
                for site in net.sites:
                    net = net.with_policy(site, word)
                self.assertEqual(self.ends_wrong(net, changes=2)[2][0], "round")

    def test_a_way_over_stamped_and_sharing_sites(self):
        net = Net(TABLE, Site("h", "k", "r", home=ALL), Site("s", "k", "r", policy="stamped"), Site("t", "k", "r", policy="shares"),
                  Site("a", "k", "r"), Site("b", "k", "r", policy="skip"), Feed("e", "h", "s", own=True, where=ONES), Feed("f", "s", "t"),
                  Feed("g", "t", "a"), Feed("i", "a", "b"), Feed("j", "b", "a"), Feed("m", "h", "t", own=True))
        wrong = self.ends_wrong(net, changes=2)
        self.assertEqual(wrong[2], ("round", ("i", "i", "j", "j")))

    def test_a_ring_of_some_cells(self):
        net = chain(4, back=((3, 2), (2, 1))).with_filter("ga", ONES).with_filter("gb", ONES)
        wrong = self.ends_wrong(net, changes=2)
        self.assertEqual(wrong[1][0][3][1], 1)

    def test_a_ring_with_feeds_side_by_side(self):
        self.ends_wrong(chain(3, back=((2, 1), (1, 2), (2, 1), (0, 1), (0, 2))), changes=2)

    def test_eight_sites(self):
        net = chain(8, back=((7, 0), (3, 0), (7, 4)))
        self.assertEqual(len(self.ends_wrong(net, changes=2)[2][1]) % 2, 0)


class ShowsWrongTest(Asking):
    """Promise 4: any value is asked."""

    def refused(self, net, thing, falls=False):
        self.assertIs(shows_wrong(net, thing, falls=falls), False)

    def test_endings(self):
        self.assertIs(shows_wrong(WAITING, BLOCKED), True)
        self.assertIs(shows_wrong(net=FALLING, thing=FALLEN, falls=True), True)
        self.refused(FALLING, FALLEN)
        self.refused(NET, BLOCKED)
        self.refused(WAITING, bend(BLOCKED, (2, 1), "e"))
        self.refused(WAITING, bend(BLOCKED, (2,), ("site", "c")))
        self.refused(NET, bend(WRONG, (2,), ("waits", "f")))
        self.refused(NET, bend(WRONG, (2, 1), "h"))

    def test_bent_in_one_place(self):
        events = WRONG[1]
        for at in range(len(events)):
            self.refused(NET, bend(WRONG, (1,), events[:at] + events[at + 1:]))
            self.refused(NET, bend(WRONG, (1, at), list(events[at])))
            self.refused(NET, bend(WRONG, (1, at), events[at] + (1,)))
            self.refused(NET, bend(WRONG, (1, at), events[at][:-1]))
        self.refused(NET, bend(WRONG, (1,), list(events)))
        self.refused(NET, list(WRONG))
        self.refused(NET, WRONG + (1,))
        self.refused(NET, WRONG[:2])
        self.refused(NET, bend(WRONG, (0,), "right"))
        self.refused(NET, bend(WRONG, (1,), events + (("deliver", "e"),)))
        self.refused(NET, bend(WRONG, (1,), events + (("make", "h", "update", (0, 2)),)))
        self.refused(NET, bend(WRONG, (2,), ["site", "c"]))
        self.refused(NET, bend(WRONG, (2,), ("site", "c", "c")))

    def test_any_values(self):
        for thing in any_values():
            self.refused(NET, thing)
            for place in ((0,), (1,), (2,), (1, 0), (1, 0, 0), (1, 0, 1), (1, 0, 2), (1, 0, 3), (1, 2, 1), (2, 0), (2, 1)):
                if not (place == (1,) and thing == ()):
                    self.refused(NET, bend(WRONG, place, thing))
            self.refused(FALLING, bend(FALLEN, (1, 2, 2), thing) if not (thing == 1 and thing is not True) else None, falls=True)
            self.refused(RING, bend(ROUND, (2, 1), thing))
            self.refused(RING, bend(ROUND, (2, 1, 0), thing))

    def test_changes_and_falls_are_counted(self):
        one = ("make", "h", "update", (0, 0))
        again = MADE + (one,)
        rest = tuple(("deliver", feed) for feed in "eeff")
        self.assertIs(shows_wrong(NET, ("wrong", again + rest, ("site", "c"))), True)
        self.refused(NET, ("wrong", again + (one,) + rest, ("site", "c")))
        fall = ("fall", "f", 2)
        more = WRONG[1] + (fall, ("deliver", "f"), ("deliver", "f"))
        self.refused(NET, ("wrong", more, ("site", "c")))
        self.assertIs(shows_wrong(NET, ("wrong", more, ("site", "c")), falls=True), True)
        self.refused(NET, ("wrong", more + (fall, ("deliver", "f"), ("deliver", "f")), ("site", "c")), falls=True)

    def test_events_that_are_no_changes_deliveries_or_falls(self):
        for step in (("rest", "e"), ("leave", "e", ALL), ("again", "f", ALL), ("made", "h", "insert", (1, 1)), ("deliver",), ()):
            self.refused(NET, bend(WRONG, (1,), WRONG[1] + (step,)), falls=True)

    def test_five_thousand_events(self):
        made = ROUND[1]
        turn = tuple(("deliver", feed) for feed in ("p", "p", "q", "q"))
        events = made + turn * 1249 + turn[:2]
        self.assertEqual(len(events), 5000)
        self.assertIs(shows_wrong(RING, ("wrong", events, ("round", ("q", "q", "p", "p")))), True)
        self.refused(RING, ("wrong", events + turn[2:3], ("round", ("q", "p", "p", "q"))))
        self.assertIs(shows_wrong(RING, ("wrong", events[:-1], ("round", ("p", "q", "q", "p")))), True)

    def test_rounds(self):
        for feeds in (("p", "q", "p", "q"), ("p", "p", "q", "q") * 125):
            self.assertIs(shows_wrong(RING, bend(ROUND, (2, 1), feeds)), True)
        for feeds in ((), ("p", "p", "q", "q") * 126, ("p", "q"), ("q", "q", "p", "p"), ("p", "p"), ["p", "p", "q", "q"], ("p", "p", "q", "z"),
                      ("h", "a"), ("p", "p", "q", ["q"])):
            self.refused(RING, bend(ROUND, (2, 1), feeds))
        self.refused(RING, bend(ROUND, (1,), ROUND[1][:1]))

    def test_rounds_over_sites_that_share_or_are_stamped(self):
        """A feed out of a ring brings its site the same rows again and again; but a site that shares does not count."""
        for word, holds in (("put", True), ("skip", True), ("wait", True), ("shares", False)):
            net = Net(TABLE, *[RING.site(name) for name in RING.sites], Site("z", "k", "r", policy=word), RING.feed("p"), RING.feed("q"),
                      Feed("x", "a", "z"))
            self.assertIs(shows_wrong(net, bend(ROUND, (2, 1), ("p", "p", "q", "q", "x", "x"))), holds)
            self.assertIs(shows_wrong(net, ROUND), True)
        ring = RING.with_feed(Feed("x", "h", "a"))
        self.assertIs(shows_wrong(ring, ROUND), True)
        for word in ("shares", "stamped"):
            net = Net(TABLE, *[RING.site(name) for name in RING.sites], Site("z", "k", "r", policy=word), RING.feed("p"), RING.feed("q"),
                      Feed("x", "h", "z", own=True))
            self.assertIs(shows_wrong(net, ROUND), True)
            twice = bend(ROUND, (1,), ROUND[1] + (("make", "h", "insert", (3, 1)),))
            self.refused(net, bend(twice, (2, 1), ("p", "p", "q", "q", "x")))

    def test_no_too_many(self):
        self.refused(HUGE, None)
        self.refused(HUGE, ("wrong", (), ("site", "c")))
        insert = ("make", "h", "insert", (0, 1))
        self.assertIs(shows_wrong(HUGE.with_policy("c", "wait"), ("wrong", (insert, ("deliver", "e")), ("waits", "f"))), True)

    def test_what_is_still_pending_ahead(self):
        """The site is not right, but something may still come to it, over an own feed too."""
        net = Net(TABLE, Site("g", "k", "r", home=HIGH), Site("h", "k", "r", home=LOW), Site("c", "k", "r"), Feed("e", "h", "g"),
                  Feed("f", "g", "c", own=True), Feed("i", "h", "c"), Feed("j", "h", "c", where=ONES))
        events = MADE + tuple(("deliver", feed) for feed in "iijj")
        self.refused(net, ("wrong", events, ("site", "c")))
        self.assertIs(shows_wrong(net, ("wrong", events + (("deliver", "e"), ("deliver", "e")), ("site", "c"))), True)
        waiting = net.with_policy("c", "wait")
        events = (MADE[0], ("deliver", "i"))
        self.refused(waiting, ("wrong", events, ("waits", "j")))
        self.assertIs(shows_wrong(waiting, ("wrong", events + (("deliver", "e"),), ("waits", "j"))), True)


class FewestTest(Asking):
    """Promise 5."""

    def test_example_of_the_document(self):
        self.assertEqual([fewest_changes(NET), fewest_changes(WAITING), fewest_changes(NET.with_filter("f", ALL)),
                          fewest_changes(NET.with_policy("c", "shares")), fewest_changes(RING)], [2, 1, 0, 0, 2])

    def test_one(self):
        self.assertEqual([fewest_changes(FALLING), fewest_changes(net=FALLING, falls=True)], [0, 1])
        self.assertEqual(fewest_changes(NET.without("f"), falls=True), 0)
        # Also for a home that has a ring, whose other failings are hidden.
        for ring in (RING, chain(3, back=((2, 1),))):
            self.assertEqual(fewest_changes(ring, falls=True), 2)
            waiting = ring.with_policy(ring.sites[-1], "wait")
            self.assertEqual(fewest_changes(waiting, falls=True), 1)
        self.assertEqual(fewest_changes(RING.with_policy("a", "wait")), 2)
        self.assertEqual(fewest_changes(RING.with_policy("h", "wait")), 1)
        self.assertEqual(fewest_changes(RING.with_policy("a", "wait").with_feed(Feed("x", "h", "a", where=ONES))), 1)

    def test_a_feed_without_cells_does_no_harm(self):
        self.assertEqual(fewest_changes(FALLING.with_filter("e", NEVER), falls=True), 0)

    def test_what_does_not_fail_does_not_count(self):
        """A home that waits, to which no feed leads, does not fall; a site that shares has no failing pairs of cells."""
        self.assertEqual(fewest_changes(NET.with_policy("h", "wait"), falls=True), 2)
        table = Table("k", "r", "u", key=("k",), fixed=("r",))
        ones = Filter.within("u", Ranges.of(1))
        net = Net(table, Site("h", "k", "r", "u", home=ALL), Site("c", "k", "r", "u"), Site("d", "k", "r", "u", policy="shares"),
                  Feed("e", "h", "c", where=TWOS),
                  Feed("f", "h", "c", where=ONES), Feed("g", "h", "d", where=ONES & ones), Feed("i", "h", "d", where=ONES))
        self.assertEqual(fewest_changes(net), 3)
        self.assertEqual(fewest_changes(net.with_policy("d", "put")), 2)

    def test_two_and_three(self):
        apart = NET.with_filter("e", TWOS)
        self.assertEqual([fewest_changes(apart.with_policy("c", word)) for word in ("put", "skip", "wait")], [2, 2, 2])
        table = Table("k", "r", "u", key=("k",), fixed=("r",))
        net = Net(table, Site("h", "k", "r", "u", home=ALL), Site("c", "k", "r", "u"), Feed("e", "h", "c", where=TWOS),
                  Feed("f", "h", "c", where=ONES))
        self.assertEqual(fewest_changes(net), 3)
        # The least pair of cells differs in the fixed column, another pair does not.
        ones = Filter.within("u", Ranges.of(1))
        self.assertEqual(fewest_changes(net.with_filter("f", ONES | (TWOS & ones))), 2)
        self.assertEqual(fewest_changes(SOLE.with_filter("e", LOW).with_feed(Feed("f", "h", "c", where=HIGH))), 3)
        unused = SOLE.with_filter("e", LOW).with_feed(Feed("f", "h", "c", where=HIGH)).with_feed(Feed("g", "h", "c", where=LOW & Filter.missing("u")))
        self.assertEqual(fewest_changes(unused), 2)

    def test_all_orders_of_small_nets(self):
        """Against all histories and all orders of deliveries of nets with few cells."""
        chance, seen, many = random.Random(33), {}, 0
        while many < 40 or set(seen) != {0, 1, 2, 3}:
            net, falls = self.small(chance), chance.randrange(2)
            grid = Grid(net)
            if grid.size > 6:
                continue
            rows = [grid.sample(cell) for cell in grid.cells()]
            changes = [("h", word, row) for word in ("insert", "update") for row in rows]
            changes += [("h", "delete", (key,)) for key in sorted({row[0] for row in rows})]
            wanted = fewest_changes(net, falls=bool(falls))
            orders = Orders(net, changes, min(wanted, 2 if falls else 3) or 2, falls)
            if wanted == 0:
                self.assertIsNone(orders.least)
            elif orders.done and not (falls and wanted == 3):
                self.assertEqual(orders.least, wanted)
            if orders.done:
                seen[wanted] = seen.get(wanted, 0) + 1
                many += 1

    def small(self, chance):
        unique = ("r",) if chance.random() < 0.2 else ()
        words = ("put", "wait") if unique else ("put", "wait", "skip", "shares", "stamped")
        table = Table("k", "r", key=("k",), unique=unique, fixed=("r",) if chance.random() < 0.3 else (), reuse=chance.random() < 0.7)
        sites = [Site(name, "k", "r", policy=chance.choice(words),
                      home=ALL if name == "h" else None) for name in ("h", "a", "b")[:chance.randint(2, 3)]]
        feeds = []
        for name in ("e", "f", "g")[:chance.randint(1, 3)]:
            source, target = chance.sample(sites, 2)
            where = chance.choice((ALL, ONES, ~ONES, LOW if unique else Filter.missing("r")))
            feeds.append(Feed(name, source.name, target.name, where=where, own=source.name == "h" and chance.random() < 0.5))
        try:
            return Net(table, *sites, *feeds)
        except InvalidNet:
            return self.small(chance)


if __name__ == "__main__":
    unittest.main()
