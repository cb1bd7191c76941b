"""Points 33 and 34: plans, and what they promise while they are played."""

import random
import unittest

from examples import ALL, HIGH, LOW, NET, NEVER, ONES, RING, SOLE, TABLE
from speaklast.boxes import allows_steps
from speaklast.cells import Grid
from speaklast.errors import Blocked, InvalidChange, InvalidFall, InvalidNet, InvalidStep, NothingPending, TooMany, UnknownName
from speaklast.feeds import Feed
from speaklast.filters import Filter
from speaklast.nets import Net
from speaklast.plans import classes, do_steps, forced, plan, shows_plan
from speaklast.ranges import Ranges
from speaklast.rules import failings
from speaklast.runs import Run
from speaklast.sites import Site
from speaklast.tables import Table
from test_papers import bend
from values import any_values
from words import Words

ONE = NET.with_filter("f", NEVER)
TWO = NET.with_filter("e", LOW).with_filter("f", HIGH)
DONE = ("plan", [("leave", "e", HIGH), ("rest", "e"), ("copy", "f", HIGH)])
PAIRED = Table("k", "l", "r", key=("k", "l"))
ORDER = ("sweep", "leave", "rest", "copy", "again")


def of(column, *numbers):
    return Filter.within(column, Ranges.of(*numbers))


def evens(many, column="k"):
    return of(column, *range(0, 2 * many, 2))


def conditions(tree):
    return sum(conditions(part) for part in tree[1:]) if tree[0] in ("and", "or", "not") else 1


def depth(tree):
    return 1 + max(depth(part) for part in tree[1:]) if tree[0] in ("and", "or", "not") else 1


class Both:
    """The feeds of each site for each key cell of two nets, in the words of point 34, over the cells that both cut."""

    def __init__(self, net, other):
        self.net = net
        # A feed with all filters, into a site of its own, cuts each net as both are cut; it changes nothing else.
        self.cut = NEVER
        for where in [one.feed(feed).where for one in (net, other) for feed in one.feeds]:
            self.cut = self.cut | where
        self.before, self.behind = self.brought(net), self.brought(other)
        self.grid = Grid(self.with_cut(net))

    def with_cut(self, one):
        sites = [one.site(name) for name in one.sites] + [Site("cutsite", *one.table.columns)]
        return Net(one.table, *sites, *[one.feed(feed) for feed in one.feeds], Feed("cutfeed", one.homes[0], "cutsite", where=self.cut, own=True))

    def brought(self, one):
        joint, found = self.with_cut(one), {feed: set() for feed in one.feeds}
        for home in joint.homes:
            words = Words(joint, home)
            for feed in one.feeds:
                found[feed] |= {tuple(words.part(cell, one.table.key)) for cell in words.asked[feed]}
        return found

    def changes(self, site):
        feeds = [feed for feed in self.net.feeds if self.net.feed(feed).target == site]
        keys = sorted({key for found in (self.before, self.behind) for feed in feeds for key in found[feed]})
        return [(key, tuple(feed for feed in feeds if key in self.before[feed]), tuple(feed for feed in feeds if key in self.behind[feed]))
                for key in keys]

    def values(self, key):
        table = self.net.table
        return {column: Ranges.between(*self.grid.stretches(column)[place]).sample(1)[0] for column, place in zip(table.key, key)}


class Asking(unittest.TestCase):
    def raised(self, make, error):
        with self.assertRaises(error) as caught:
            make()
        return caught.exception

    def planned(self, net, other):
        """The steps of a plan, which are compared with the words of point 34."""
        told = plan(net, other)
        self.assertEqual((type(told), len(told), told[0], type(told[1])), (tuple, 2, "plan", list), told)
        both, steps = Both(net, other), told[1]
        places = [(ORDER.index(step[0]), net.feeds.index(step[1])) for step in steps]
        self.assertEqual(places, sorted(set(places)))
        wanted = {}
        for site in net.sites:
            changes = both.changes(site)
            self.assertEqual(classes(net, other, site), tuple(change for change in changes if change[1] != change[2]))
            for key, before, behind in changes:
                for task in self.tasks(before, behind):
                    wanted.setdefault(task, []).append(key)
        self.assertEqual([step[:2] for step in steps], sorted(wanted, key=lambda task: (ORDER.index(task[0]), net.feeds.index(task[1]))))
        for step in steps:
            if step[0] != "rest":
                self.fits(both, net.feed(step[1]).target, step, wanted[step[:2]])
        self.assertEqual(forced(net, other), tuple((*step[:2], wanted[step[:2]][0]) for step in steps))
        self.assertIs(shows_plan(net, other, told), True)
        self.assertIs(shows_plan(net, other, ("plan", tuple(steps))), True)
        return steps

    def tasks(self, before, behind):
        gone, fresh = [feed for feed in before if feed not in behind], [feed for feed in behind if feed not in before]
        if not behind:
            return [(kind, feed) for kind in ("sweep", "rest") for feed in gone]
        found = [(kind, feed) for kind in ("leave", "rest") for feed in gone] + [("copy", feed) for feed in fresh]
        return found + [("again", behind[0])] * bool(gone and not fresh)

    def fits(self, both, site, step, keys):
        """A box passes just these key cells, of all that come to the site, with few conditions."""
        kind, feed, box = step
        self.assertLessEqual(conditions(box.tree), 80)
        self.assertLessEqual(depth(box.tree), 10)
        self.assertLessEqual(set(box.columns), set(both.net.table.key))
        passed = [key for key, _, _ in both.changes(site) if box(both.values(key)) is True]
        self.assertEqual(passed, keys)


class PlanTest(Asking):
    """Promise 9: which plan there is."""

    def test_examples_of_the_document(self):
        self.assertEqual([[step[:2] for step in plan(ONE, TWO)[1]], forced(ONE, TWO), classes(ONE, TWO, "c")],
                         [[("leave", "e"), ("rest", "e"), ("copy", "f")],
                          (("leave", "e", (1,)), ("rest", "e", (1,)), ("copy", "f", (1,))), (((1,), ("e",), ("f",)),)])
        self.assertEqual([[step[:2] for step in plan(ONE, ONE.with_filter("e", NEVER))[1]], plan(NET, ONE), shows_plan(ONE, TWO, DONE)],
                         [[("sweep", "e"), ("rest", "e")], ("none", "wrong", 0), True])
        self.planned(ONE, TWO)
        self.planned(net=ONE, other=ONE.with_filter("e", NEVER))

    def test_nothing_to_do(self):
        for other in (ONE, ONE.with_filter("f", NEVER & ALL), ONE.with_filter("e", LOW | HIGH)):
            self.assertEqual(plan(ONE, other), ("plan", []))
            self.assertEqual((forced(ONE, other), classes(ONE, other, "c")), ((), ()))
            self.assertIs(shows_plan(ONE, other, ("plan", ())), True)

    def test_each_kind_of_step(self):
        doubled = NET.with_filter("f", ALL)
        self.assertEqual([step[:2] for step in self.planned(doubled, ONE)], [("leave", "f"), ("rest", "f"), ("again", "e")])
        self.assertEqual([step[:2] for step in self.planned(ONE, doubled)], [("copy", "f")])
        self.assertEqual([step[:2] for step in self.planned(TWO, doubled)], [("copy", "e"), ("copy", "f")])
        self.assertEqual([step[:2] for step in self.planned(doubled, TWO)],
                         [("leave", "e"), ("leave", "f"), ("rest", "e"), ("rest", "f"), ("again", "e"), ("again", "f")])
        low = ONE.with_filter("e", LOW)
        self.assertEqual([step[:2] for step in self.planned(ONE, low)], [("sweep", "e"), ("rest", "e")])
        self.assertEqual([step[:2] for step in self.planned(low, ONE)], [("copy", "e")])
        turned = TWO.with_filter("e", HIGH).with_filter("f", LOW)
        self.assertEqual([step[:2] for step in self.planned(TWO, turned)],
                         [("leave", "e"), ("leave", "f"), ("rest", "e"), ("rest", "f"), ("copy", "e"), ("copy", "f")])
        mixed = TWO.with_filter("e", of("k", 0)).with_filter("f", of("k", 1, 20))
        self.assertEqual([step[0] for step in self.planned(TWO, mixed)], ["sweep", "sweep", "leave", "rest", "rest", "copy"])

    def test_again_by_the_first_feed_alone(self):
        three = NET.with_filter("f", ALL).with_feed(Feed("g", "h", "c"))
        self.assertEqual([step[:2] for step in self.planned(three, three.with_filter("e", LOW))], [("leave", "e"), ("rest", "e"), ("again", "f")])
        self.assertEqual([step[:2] for step in self.planned(three, three.with_filter("g", LOW))], [("leave", "g"), ("rest", "g"), ("again", "e")])

    def test_own_feeds_and_two_homes(self):
        net = Net(TABLE, Site("a", "k", "r", home=LOW), Site("b", "k", "r", home=HIGH), Site("c", "k", "r"), Site("d", "r", "k"),
                  Feed("e", "a", "c", own=True), Feed("f", "b", "c"), Feed("g", "a", "b"), Feed("i", "b", "d"),
                  Feed("j", "b", "d", own=True, where=NEVER))
        self.planned(net, net.with_filter("j", ALL).with_filter("e", of("k", 1, 2, 30)))
        self.planned(net, net.with_filter("j", ALL).with_filter("i", LOW))
        self.planned(net.with_filter("i", of("k", 20)), net.with_filter("i", NEVER).with_filter("j", of("k", 20)))

    def test_two_key_columns(self):
        net = Net(PAIRED, Site("h", "k", "l", "r", home=ALL), Site("c", "l", "k"), Feed("e", "h", "c"), Feed("f", "h", "c", where=NEVER))
        one = of("k", 1, 3) & of("l", 2, 4) | of("k", 2) & ~of("l", 0)
        other = of("l", 2, 7) | of("k", 9) & of("l", 3)
        for first, second in ((ALL, one), (one, other), (one, ~one), (NEVER, other)):
            self.planned(net.with_filter("e", first).with_filter("f", ~first), net.with_filter("e", second).with_filter("f", ~second))
            self.planned(net.with_filter("e", first), net.with_filter("e", second))

    def test_unchanged_feeds_are_not_looked_at(self):
        """A feed with another filter than over key columns may stay as it is, and speak again."""
        net = Net(TABLE, Site("h", "k", "r", home=ALL), Site("a", "k", "r"), Site("c", "k", "r"), Feed("d", "h", "a", where=ONES),
                  Feed("e", "a", "c"),
                  Feed("f", "h", "c", where=ONES), Feed("g", "a", "c", where=NEVER))
        steps = self.planned(net, net.with_filter("e", LOW))
        self.assertEqual([step[:2] for step in steps], [("leave", "e"), ("rest", "e"), ("again", "f")])
        self.planned(net, net.with_filter("g", LOW))

    def test_bounds_of_twelve_digits(self):
        """A stretch behind the last bound starts beyond it; the boxes tell it by what is not in it."""
        last = 10 ** 12 - 1
        for where in (Filter.within("k", Ranges.between(None, last)), Filter.within("k", Ranges.between(-last, None)),
                      Filter.within("k", Ranges.between(-last, last)),
                      Filter.within("k", Ranges.between(-last, -last) | Ranges.between(5, last)),
                      ~Filter.within("k", Ranges.between(-last, 7)) & Filter.within("k", Ranges.between(None, last)),
                      ~Filter.within("k", Ranges.between(7, last)) & Filter.within("k", Ranges.between(-last, None)),
                      ~Filter.within("k", Ranges.between(-last, 7)) | of("k", last)):
            for other in (~where, NEVER, ALL):
                for step in self.planned(ONE.with_filter("e", where), ONE.with_filter("e", other)):
                    if step[0] != "rest":
                        self.assertLessEqual(self.largest(step[2].tree), last)

    def largest(self, tree):
        if tree[0] == "within":
            return max([abs(end) for part in tree[2] for end in part if end is not None], default=0)
        return max([self.largest(part) for part in tree[1:] if isinstance(part, tuple)], default=0)

    def test_many_key_cells(self):
        """Nearly 1,500 key cells, and sets of pairs of which each row of pairs is another one."""
        table = Table("k", "l", key=("k", "l"))
        net = Net(table, Site("h", "k", "l", home=ALL), Site("c", "k", "l"), Feed("e", "h", "c"), Feed("f", "h", "c", where=NEVER))
        chance = random.Random(61)
        def scattered():
            rows = [of("k", *chance.sample(range(0, 36, 2), 9)) & of("l", *chance.sample(range(0, 36, 2), 9)) for _ in range(12)]
            while len(rows) > 1:
                rows = [one | other for one, other in zip(rows[::2], rows[1::2])] + rows[len(rows) - len(rows) % 2:]
            return rows[0]
        for _ in range(3):
            one, other = scattered(), scattered()
            first, second = net.with_filter("e", one).with_filter("f", ~one), net.with_filter("e", other).with_filter("f", other)
            told = plan(first, second)
            self.assertIs(shows_plan(first, second, told), True)
            for step in told[1]:
                if step[0] != "rest":
                    self.assertLessEqual(conditions(step[2].tree), 80)
                    self.assertLessEqual(depth(step[2].tree), 10)
        steps = [of("k", *range(2 * at, 38, 2)) & of("l", 2 * at) for at in range(19)]
        stairs = NEVER
        for at in range(0, 19, 2):
            stairs = stairs | steps[at]
        self.assertIs(shows_plan(net, net.with_filter("e", stairs), plan(net, net.with_filter("e", stairs))), True)

    def test_the_longer_key_column(self):
        """Seventy stretches beside twenty: there are no more terms than twenty."""
        table = Table("k", "l", key=("k", "l"))
        chance = random.Random(66)
        for long, short in (("k", "l"), ("l", "k")):
            net = Net(table, Site("h", "k", "l", home=ALL), Site("c", "k", "l"), Feed("e", "h", "c", where=NEVER))
            where = NEVER
            for _ in range(15):
                where = where | of(long, *chance.sample(range(68), 25)) & of(short, *chance.sample(range(18), 8))
            told = plan(net, net.with_filter("e", where))
            self.assertIs(shows_plan(net, net.with_filter("e", where), told), True)
            self.assertLessEqual(conditions(told[1][0][2].tree), 40)

    def test_more_conditions_than_allowed(self):
        """Thirty rows of pairs, each with stretches beyond the last bounds of twelve digits: here the box tells these bounds."""
        last = 10 ** 12 - 1
        rows = [of("k", at) & Filter.within("l", Ranges.between(None, -last - 1) | Ranges.of(at) | Ranges.between(40, last)) for at in range(30)]
        while len(rows) > 1:
            rows = [one | other for one, other in zip(rows[::2], rows[1::2])] + rows[len(rows) - len(rows) % 2:]
        table = Table("k", "l", key=("k", "l"))
        net = Net(table, Site("h", "k", "l", home=ALL), Site("c", "k", "l"), Feed("e", "h", "c", where=NEVER))
        steps = self.planned(net, net.with_filter("e", rows[0]))
        self.assertEqual([step[:2] for step in steps], [("copy", "e")])

    def test_by_chance(self):
        chance, seen = random.Random(62), {}
        while min([seen.get(kind, 0) for kind in ORDER]) < 25:
            net = chance_plan_net(chance)
            other = changed_filters(chance, net)
            told = plan(net, other)
            if told[0] == "plan":
                for step in self.planned(net, other):
                    seen[step[0]] = seen.get(step[0], 0) + 1
            else:
                self.assertEqual((forced(net, other), shows_plan(net, other, ("plan", []))), ((), False))


class NoPlanTest(Asking):
    """Promise 9: the first reason why there is none."""

    def none(self, net, other, *reason):
        self.assertEqual(plan(net, other), ("none",) + reason)
        self.assertEqual(forced(net, other), ())
        for thing in (("plan", []), DONE, plan(net, other)):
            self.assertIs(shows_plan(net, other, thing), False)

    def test_akin(self):
        table = Table("k", "r", key=("k",), reuse=False)
        for other in (ONE.without("f"), ONE.with_policy("c", "skip"), ONE.with_feed(Feed("g", "h", "c", where=NEVER)), RING,
                      Net(TABLE, ONE.site("c"), ONE.site("h"), ONE.feed("e"), ONE.feed("f")),
                      Net(TABLE, ONE.site("h"), ONE.site("c"), ONE.feed("f"), ONE.feed("e")),
                      Net(table, ONE.site("h"), ONE.site("c"), ONE.feed("e"), ONE.feed("f")),
                      Net(TABLE, Site("h", "k", "r", home=LOW), ONE.site("c"), ONE.feed("e"), ONE.feed("f")),
                      Net(TABLE, Site("h", "k", "r", home=ALL | ALL), ONE.site("c"), ONE.feed("e"), ONE.feed("f")),
                      Net(TABLE, ONE.site("h"), Site("c", "r", "k"), ONE.feed("e"), ONE.feed("f")),
                      Net(TABLE, ONE.site("h"), ONE.site("c"), Feed("e", "h", "c", own=True), ONE.feed("f"))):
            self.none(ONE, other, "akin", None)
            self.none(other, ONE, "akin", None)
        self.none(ONE.with_policy("c", "shares"), NET, "akin", None)

    def test_wrong(self):
        self.none(NET, NET, "wrong", 0)
        self.none(NET, ONE, "wrong", 0)
        self.none(ONE, NET, "wrong", 1)
        self.none(NET, ONE.with_filter("f", of("r", 7)), "wrong", 0)
        # Falls are not asked.
        waiting = ONE.with_policy("c", "wait")
        self.assertEqual(plan(waiting, waiting), ("plan", []))

    def test_feeds_on_which_no_step_is_allowed(self):
        for word in ("wait", "skip", "shares"):
            net = ONE.with_policy("c", word)
            self.none(net, net.with_filter("e", LOW).with_filter("f", HIGH), "feed", "e")
            self.none(net, net.with_filter("f", NEVER | NEVER), "feed", "f")
            self.assertEqual(plan(net, net), ("plan", []))
        home = Net(TABLE, Site("h", "k", "r", home=LOW), Site("g", "k", "r", home=HIGH), Feed("e", "h", "g"))
        self.none(home, home.with_filter("e", NEVER), "feed", "e")
        self.none(SOLE, SOLE.with_filter("e", LOW), "feed", "e")
        once = Net(Table("k", "r", key=("k",), reuse=False), *[NET.site(site) for site in NET.sites], NET.feed("e"))
        self.none(once, once.with_filter("e", LOW), "feed", "e")
        stamped = Net(TABLE, NET.site("h"), Site("c", "k", "r", policy="stamped"), Feed("e", "h", "c", own=True))
        self.none(stamped, stamped.with_filter("e", LOW), "feed", "e")

    def test_filters_over_other_columns(self):
        self.none(ONE, ONE.with_filter("e", ONES), "feed", "e")
        self.none(ONE.with_filter("e", LOW & ONES), ONE, "feed", "e")
        self.none(ONE, ONE.with_filter("f", ONES & NEVER).with_filter("e", LOW), "feed", "f")
        self.none(ONE.with_filter("f", NEVER), ONE.with_filter("f", Filter.missing("r") & NEVER), "feed", "f")
        same = ONE.with_filter("e", ONES)
        self.assertEqual(plan(same, same), ("plan", []))

    def test_relay(self):
        net = Net(TABLE, Site("h", "k", "r", home=ALL), Site("a", "k", "r"), Site("b", "k", "r"), Feed("e", "h", "a"), Feed("f", "a", "b"),
                  Feed("g", "h", "b"))
        self.none(net, net.with_filter("e", LOW), "relay", "a")
        self.none(net, net.with_filter("e", LOW).with_filter("f", of("k", 1)), "relay", "a")
        self.planned(net, net.with_filter("f", LOW))
        # The rows come to a over another feed; a site out of which no feed leads may want other rows.
        more = net.with_feed(Feed("i", "h", "a"))
        self.planned(more, more.with_filter("e", LOW))
        self.planned(net, net.with_filter("f", NEVER).with_filter("g", LOW))

    def test_reasons_in_their_order(self):
        net = Net(TABLE, Site("h", "k", "r", home=ALL), Site("a", "k", "r"), Site("b", "k", "r", policy="skip"), Feed("e", "h", "a"),
                  Feed("f", "a", "b"))
        self.none(net, net.with_filter("e", LOW).with_filter("f", LOW), "feed", "f")
        self.none(net, net.with_filter("e", LOW), "relay", "a")
        fails = net.with_feed(Feed("g", "h", "b"))
        self.none(fails, fails.with_filter("e", LOW).with_filter("f", NEVER), "feed", "f")
        self.none(fails, fails.with_filter("e", LOW & ONES), "wrong", 1)

    def test_too_many(self):
        """The cells that both cut: each net by itself has fewer."""
        one, other = ONE.with_filter("e", evens(200)), ONE.with_filter("e", of("k", *range(1001, 1401, 2)))
        self.assertEqual((Grid(one).size, Grid(other).size), (802, 802))
        count = 801 * 2
        for make in (lambda: plan(one, other), lambda: classes(one, other, "c"), lambda: forced(one, other), lambda: shows_plan(one, other, None),
                     lambda: plan(one.with_filter("f", of("r", 1)), other)):
            self.assertGreaterEqual(self.raised(make, TooMany).count, count)
        self.assertEqual(self.raised(lambda: plan(one, other), TooMany).count, count)
        # It goes ahead of all reasons but the first.
        self.assertEqual(plan(one, other.with_policy("c", "skip")), ("none", "akin", None))
        self.assertEqual(self.raised(lambda: plan(one.with_policy("c", "skip"), other.with_policy("c", "skip")), TooMany).count, count)
        self.assertIs(shows_plan(one, other.with_policy("c", "skip"), None), False)

    def test_too_many_by_the_boxes(self):
        one, other = ONE.with_filter("e", evens(200)), ONE
        box = of("k", *range(1001, 1401, 2))
        self.assertEqual(self.raised(lambda: shows_plan(one, other, ("plan", [("copy", "e", box)])), TooMany).count, 1602)
        self.assertEqual(self.raised(lambda: shows_plan(one, other, ("plan", (("copy", "e", ~evens(200)), ("again", "f", box)))), TooMany).count,
                         1602)
        for thing in (("plan", [("copy", "e", box), ("leave", "e", box)]), ("plan", [("copy", "e", box), ("copy", "e", box)]),
                      ["plan", [("copy", "e", box)]],
                      ("plan", [["copy", "e", box]]), ("plan", [("copy", "h", box)]), ("plan", [("copy", "e", box & ONES)]),
                      ("plan", [("rest", "e", box)])):
            self.assertIs(shows_plan(one, other, thing), False)


class ShowsPlanTest(Asking):
    """Promise 9: any value is asked."""

    def accepted(self, net, other, steps):
        self.assertIs(shows_plan(net, other, ("plan", steps)), True)

    def refused(self, net, other, steps):
        self.assertIs(shows_plan(net, other, ("plan", steps)), False)

    def test_other_boxes_may_stand_where_nothing_comes(self):
        low = ONE.with_filter("e", of("k", 1, 2))
        other = low.with_filter("e", of("k", 2, 3))
        rest = ("rest", "e")
        self.accepted(low, other, [("sweep", "e", of("k", 1)), rest, ("copy", "e", of("k", 3))])
        self.accepted(low, other, [("sweep", "e", of("k", 1, 7, 8)), rest, ("copy", "e", of("k", 3))])
        # To copy what neither came nor is to come would bring it; the rows of a region that is empty there do not.
        self.refused(low, other, [("sweep", "e", of("k", 1)), rest, ("copy", "e", of("k", 3, 9))])
        self.refused(low, other, [("sweep", "e", of("k", 1, 2)), rest, ("copy", "e", of("k", 3))])
        self.refused(low, other, [("sweep", "e", of("k", 1)), rest, ("copy", "e", of("k", 2, 3))])
        half = Net(TABLE, Site("h", "k", "r", home=LOW), Site("c", "k", "r"), Feed("e", "h", "c", where=NEVER), Feed("f", "h", "c", where=NEVER))
        self.accepted(half, half.with_filter("e", of("k", 3)), [("copy", "e", of("k", 3, 10, 11))])
        self.refused(half, half.with_filter("e", of("k", 3)), [("copy", "e", of("k", 3, 4))])
        self.accepted(half, half.with_filter("e", of("k", 3)), [("leave", "f", of("k", 5)), ("copy", "e", of("k", 3)), ("again", "e", of("k", 3, 5))])

    def test_what_a_source_does_not_want_may_be_copied(self):
        net = Net(TABLE, Site("h", "k", "r", home=ALL), Site("a", "k", "r"), Site("c", "k", "r"), Feed("e", "h", "a", where=HIGH),
                  Feed("f", "a", "c", where=NEVER))
        self.accepted(net, net.with_filter("f", HIGH), [("copy", "f", ALL)])
        self.refused(net.with_filter("e", ALL), net.with_filter("e", ALL).with_filter("f", HIGH), [("copy", "f", ALL)])

    def test_an_own_feed_copies_what_its_home_makes(self):
        net = Net(TABLE, Site("g", "k", "r", home=HIGH), Site("h", "k", "r", home=LOW), Site("c", "k", "r"), Feed("e", "h", "g"),
                  Feed("f", "g", "c", own=True, where=NEVER),
                  Feed("i", "g", "c", where=NEVER))
        self.accepted(net, net.with_filter("f", HIGH), [("copy", "f", ALL)])
        self.refused(net, net.with_filter("i", HIGH), [("copy", "i", ALL)])

    def test_further_rests_and_agains(self):
        rest = ("rest", "f")
        self.accepted(ONE, TWO, DONE[1][:2] + [rest] + DONE[1][2:])
        self.accepted(ONE, TWO, DONE[1] + [("again", "f", HIGH)])
        self.accepted(ONE, TWO, DONE[1] + [("again", "e", LOW), ("again", "f", HIGH)])
        self.refused(ONE, TWO, DONE[1] + [("again", "e", HIGH)])
        self.refused(ONE, TWO, DONE[1] + [("again", "f", ALL)])
        doubled = NET.with_filter("f", ALL)
        left = [("leave", "f", HIGH), rest]
        self.accepted(doubled, doubled.with_filter("f", LOW), left + [("again", "e", HIGH)])
        self.accepted(doubled, doubled.with_filter("f", LOW), left + [("again", "e", ALL)])
        self.refused(doubled, doubled.with_filter("f", LOW), left)
        self.refused(doubled, doubled.with_filter("f", LOW), left + [("again", "e", of("k", 11))])
        self.refused(doubled, doubled.with_filter("f", LOW), left + [("again", "f", HIGH)])

    def test_by_another_feed_that_stays(self):
        three = NET.with_filter("f", ALL).with_feed(Feed("g", "h", "c"))
        other = three.with_filter("e", LOW)
        for steps in ([("again", "f", HIGH)], [("again", "g", HIGH)],
                      [("again", "f", of("k", 10, 11)), ("again", "g", Filter.within("k", Ranges.between(12, None)))]):
            self.accepted(three, other, [("leave", "e", HIGH), ("rest", "e")] + steps)
        self.refused(three, other, [("leave", "e", HIGH), ("rest", "e"), ("again", "f", of("k", 10, 11)),
                                    ("again", "g", Filter.within("k", Ranges.between(13, None)))])

    def test_bent_in_one_place(self):
        steps = DONE[1]
        for at in range(3):
            self.refused(ONE, TWO, steps[:at] + steps[at + 1:])
            self.refused(ONE, TWO, steps[:at] + [list(steps[at])] + steps[at + 1:])
            self.refused(ONE, TWO, steps[:at] + [steps[at] + (ALL,)] + steps[at + 1:])
            self.refused(ONE, TWO, steps + [steps[at]])
            self.refused(ONE, TWO, steps[:at] + [(steps[at][0], "f" if steps[at][1] == "e" else "e", *steps[at][2:])] + steps[at + 1:])
        for box in (LOW, ALL, NEVER, HIGH & ONES, of("k", 10), None, "k"):
            self.refused(ONE, TWO, [("leave", "e", box)] + steps[1:])
            self.refused(ONE, TWO, steps[:2] + [("copy", "f", box)])
        self.refused(ONE, TWO, steps[::-1])
        self.refused(ONE, TWO, [steps[1], steps[0], steps[2]])
        self.refused(ONE, TWO, [("sweep", "e", HIGH)] + steps[1:])
        self.refused(ONE, TWO, [("sweep", "f", HIGH)] + steps)
        self.refused(TWO, ONE, steps)
        for thing in (list(DONE), DONE + (1,), ("Plan", DONE[1]), ("plan",), DONE[1]):
            self.assertIs(shows_plan(ONE, TWO, thing), False)
        self.assertIs(shows_plan(net=ONE, other=TWO, thing=("plan", tuple(steps))), True)

    def test_swept_key_cells_are_not_touched_otherwise(self):
        none = ONE.with_filter("e", NEVER)
        steps = [("sweep", "e", ALL), ("rest", "e")]
        self.accepted(ONE, none, steps)
        self.accepted(ONE, none, steps + [("rest", "f")])
        self.refused(ONE, none, [("sweep", "e", ALL), ("sweep", "f", ALL), ("rest", "e")])
        for step in (("leave", "f", ALL), ("leave", "e", of("k", 1))):
            self.refused(ONE, none, [steps[0], step, steps[1]])
        for step in (("copy", "f", ALL), ("again", "f", ALL), ("again", "e", of("k", 1))):
            self.refused(ONE, none, steps + [step])

    def test_any_values(self):
        for thing in any_values():
            self.assertIs(shows_plan(ONE, TWO, thing), False)
            for place in ((0,), (1,), (1, 0), (1, 0, 0), (1, 0, 1), (1, 1, 0), (1, 1, 1)):
                self.assertIs(shows_plan(ONE, TWO, bend(("plan", tuple(DONE[1])), place, thing)), False)
            if not isinstance(thing, Filter):
                self.refused(ONE, TWO, [("leave", "e", thing)] + DONE[1][1:])

    def test_long_lists(self):
        self.refused(ONE, TWO, DONE[1] * 2000)
        self.refused(ONE, TWO, [("rest", "e")] * 9000)


class DoStepsTest(Asking):
    def test_deliveries_ahead_of_a_rest(self):
        run = Run(ONE)
        for row in ((1, 1), (20, 1), (30, 2)):
            run.make("h", "insert", row)
        told = list(do_steps(run, DONE[1]))
        self.assertEqual(told, DONE[1])
        events = list(run.events())[3:]
        self.assertEqual(events, [DONE[1][0]] + [("deliver", "e")] * 3 + DONE[1][1:])
        self.assertEqual(run.pending("f"), (("replace", HIGH, ((20, 1), (30, 2))),))
        self.assertEqual(run.net.feed("e").where, ALL & ~HIGH)

    def test_one_by_one(self):
        run = Run(ONE)
        told = do_steps(run=run, steps=tuple(DONE[1]))
        self.assertEqual(len(run), 0)
        self.assertEqual((next(told), len(run)), (DONE[1][0], 1))
        run.make("h", "insert", (2, 2))
        self.assertEqual((next(told), run.pending("e"), run.held("c")), (DONE[1][1], (), ((2, 2),)))
        self.assertEqual(list(told), DONE[1][2:])

    def test_errors_of_runs(self):
        run = Run(ONE)
        self.assertEqual(self.raised(lambda: list(do_steps(run, [("rest", "zz")])), UnknownName).name, "zz")
        waiting = Run(NET.with_policy("c", "wait"))
        waiting.make("h", "insert", (1, 1))
        self.assertEqual(self.raised(lambda: list(do_steps(waiting, [("rest", "e")])), InvalidStep).reason, "feed")
        self.assertEqual(len(waiting), 1)


# Nets of which the filters over key columns are changed, and runs of them.

def chance_key_filter(chance, key):
    column = chance.choice(key)
    made = chance.choice([ALL, NEVER] + [of(column, *chance.sample(range(4), chance.randint(1, 3))) for _ in range(6)])
    if chance.random() < 0.2:
        made = ~made
    if chance.random() < 0.3:
        made = made | chance_key_filter(chance, key)
    return made & chance_key_filter(chance, key) if chance.random() < 0.15 else made


def chance_plan_net(chance):
    table = PAIRED if chance.random() < 0.3 else TABLE
    key = table.key
    split = chance.random() < 0.4
    sites = [Site("h", *table.columns, home=of("k", 0, 1) if split else ALL, policy=chance.choice(("put", "skip", "shares")))]
    if split:
        sites.append(Site("g", *table.columns, home=of("k", 2, 3), policy=chance.choice(("put", "stamped"))))
    for name in "abc"[:chance.randint(1, 3)]:
        sites.append(Site(name, *(table.columns if chance.random() < 0.7 else key),
                          policy=chance.choice(("put", "put", "put", "put", "skip", "shares"))))
    feeds = []
    for letter in "qrstuvw"[:chance.randint(1, 7)]:
        source, target = chance.sample(sites, 2)
        if target.home is None or chance.random() < 0.1:
            where = chance_key_filter(chance, key)
            if chance.random() < 0.15 and "r" in source.columns:
                where = where & of("r", 1, 2)
            feeds.append(Feed(letter, source.name, target.name, where=where, own=source.home is not None and chance.random() < 0.4))
    try:
        net = Net(table, *sites, *feeds)
    except InvalidNet:
        return chance_plan_net(chance)
    return net if feeds else chance_plan_net(chance)


def changed_filters(chance, net):
    for feed in net.feeds:
        if chance.random() < 0.5 and allows_steps(net, feed):
            net = net.with_filter(feed, chance_key_filter(chance, net.table.key))
    return net


class PlayedTest(Asking):
    """Promise 10."""

    def some_plan(self, chance, net):
        """Another net and a plan to it, if one is found soon."""
        for _ in range(30):
            other = changed_filters(chance, net)
            told = plan(net, other)
            if told[0] == "plan" and told[1]:
                return other, told[1]
        return None

    def change(self, chance, run):
        net, home = run.net, chance.choice(run.net.homes)
        row = tuple(chance.randrange(4) if column in net.table.key else chance.choice((None, 0, 1, 2)) for column in net.table.columns)
        word = chance.choice(("insert", "update", "delete"))
        try:
            run.make(home, word, net.table.key_of(row) if word == "delete" else row)
        except InvalidChange:
            pass

    def deliver(self, chance, run):
        try:
            run.deliver(chance.choice(run.net.feeds))
        except (NothingPending, Blocked):
            pass

    def drive(self, chance, run, events):
        for _ in range(events):
            kind = chance.random()
            if kind < 0.4:
                self.change(chance, run)
            elif kind < 0.55:
                try:
                    run.fall(chance.choice(run.net.feeds), back=chance.randint(1, 4))
                except InvalidFall:
                    pass
            else:
                self.deliver(chance, run)

    def test_several_plans_one_behind_the_other(self):
        """Rows are made, feeds fall and are delivered in any order; all ends right for the second net."""
        chance, many = random.Random(63), 0
        while many < 120:
            net = chance_plan_net(chance)
            if list(failings(net, falls=True)):
                continue
            run, at = Run(net), net
            for _ in range(3):
                found = self.some_plan(chance, at)
                if found is None:
                    break
                at, steps = found
                self.drive(chance, run, chance.randint(0, 20))
                for _ in do_steps(run, steps):
                    self.drive(chance, run, chance.randint(0, 8))
                many += 1
            self.drive(chance, run, 5)
            self.ends_as(chance, run, at)

    def ends_as(self, chance, run, net):
        """All is delivered: each site shows the rows that it wants in the net."""
        for _ in range(3000):
            if run.resting:
                break
            self.deliver(chance, run)
        self.assertEqual((run.resting, run.stuck), (True, ()))
        other = self.with_rows(net, run)
        for site in net.sites:
            self.assertEqual(run.held(site), other.wanted(site))
            self.assertIs(run.right(site), True)

    def with_rows(self, net, run):
        """A run of another net with the same made rows."""
        other = Run(net)
        for home in net.homes:
            for row in run.made(home):
                other.make(home, "insert", row)
        return other

    def keys(self, run, site, rows):
        columns = run.net.site(site).columns
        return {tuple(row[columns.index(column)] for column in run.net.table.key) for row in rows}

    def test_no_gap(self):
        """A plan that begins at rest, while rows are updated: what a site wants in both nets it shows at every moment."""
        chance, many = random.Random(64), 0
        while many < 120:
            net = chance_plan_net(chance)
            found = None if list(failings(net, falls=True)) else self.some_plan(chance, net)
            if found is None:
                continue
            other, steps = found
            run = Run(net)
            self.drive(chance, run, 25)
            list(run.settle())
            wanted = {site: self.keys(run, site, self.with_rows(net, run).wanted(site)) & self.keys(run, site, self.with_rows(other, run).wanted(site))
                      for site in net.sites}
            many += any(wanted.values())
            begun = {feed: run.sent(feed) for feed in net.feeds}
            kept = {column for one in (net, other) for feed in net.feeds for column in one.feed(feed).where.columns}
            for _ in do_steps(run, steps):
                self.no_gap(run, wanted)
                for _ in range(chance.randint(0, 8)):
                    self.stir(chance, run, begun, kept)
                    self.no_gap(run, wanted)
            while not run.resting:
                self.deliver(chance, run)
                self.no_gap(run, wanted)
            self.ends_as(chance, run, other)

    def stir(self, chance, run, begun, kept):
        """An update that no filter sees, a fall to what was sent since the plan began, or a delivery."""
        kind = chance.random()
        home, feed, back = chance.choice(run.net.homes), chance.choice(run.net.feeds), chance.randint(1, 4)
        if kind < 0.4 and run.made(home):
            row = chance.choice(run.made(home))
            table = run.net.table
            run.make(home, "update", tuple(value if column in table.key or column in kept else chance.choice((None, 0, 1, 2, 5))
                                           for column, value in zip(table.columns, row)))
        elif kind < 0.6 and run.sent(feed) - len(run.pending(feed)) - back >= begun[feed]:
            try:
                run.fall(feed, back=back)
            except InvalidFall:
                pass
        elif kind >= 0.6:
            self.deliver(chance, run)

    def no_gap(self, run, wanted):
        for site in run.net.sites:
            self.assertLessEqual(wanted[site], self.keys(run, site, run.held(site)))

    def test_each_step_is_needed(self):
        chance, many = random.Random(65), 0
        while many < 60:
            net = chance_plan_net(chance)
            found = None if list(failings(net)) else self.some_plan(chance, net)
            if found is not None:
                other, steps = found
                for at in range(len(steps)):
                    self.assertIs(shows_plan(net, other, ("plan", steps[:at] + steps[at + 1:])), False)
                    many += 1

    def test_without_the_rest_an_old_row_speaks_last(self):
        """What e had sent before falls behind the copy of f: the row that c shows is an old one."""
        run = Run(ONE)
        run.make("h", "insert", (20, 1))
        run.deliver("e")
        run.leave("e", HIGH)
        run.copy("f", HIGH)
        run.make("h", "update", (20, 2))
        list(run.settle("f"))
        run.fall("e", back=1)
        list(run.settle())
        self.assertEqual((run.held("c"), run.right("c")), (((20, 1),), False))


if __name__ == "__main__":
    unittest.main()
