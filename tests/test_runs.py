"""Points 9 to 16, 20 and 24: runs."""

import random
import unittest

from chances import chance_net, chance_row, deliver_by_chance, make_by_chance
from examples import ALL, HIGH, LOW, NET, ONES, RING, SOLE, TABLE, WIDE, chain
from model import Model, Stop
from speaklast.errors import Blocked, InvalidChange, InvalidFall, InvalidUndo, NothingPending, UnknownName
from speaklast.feeds import Feed
from speaklast.nets import Net
from speaklast.runs import Run, play
from speaklast.sites import Site
from speaklast.tables import Table
from values import any_values, no_names

TWO_HOMES = Net(Table("k", "r", key=("k",), fixed=("r",), reuse=False), Site("a", "r", "k", home=LOW, policy="shares"),
                Site("b", "k", "r", home=HIGH, policy="stamped"), Site("c", "k"), Feed("e", "a", "c"), Feed("f", "b", "c"),
                Feed("g", "b", "a", own=True))


class Asking(unittest.TestCase):
    def raised(self, kind, make, **fields):
        with self.assertRaises(kind) as caught:
            make()
        self.assertEqual({name: getattr(caught.exception, name) for name in fields}, fields)
        self.assertIs(type(caught.exception), kind)

    def told(self, run):
        """All that can be asked of a run."""
        net = run.net
        return (list(run.events()), len(run), net, run.resting, run.stuck,
                [(run.pending(feed), run.sent(feed)) for feed in net.feeds],
                [(run.held(site), run.made(site), run.wanted(site), run.right(site)) for site in net.sites])


class ExampleTest(Asking):
    """Promise 8."""

    def test_example_of_the_document(self):
        run = Run(NET)
        self.assertEqual(
            [run.make("h", "insert", (7, 1)), run.make("h", "update", (7, 2)), run.pending("e"), run.pending("f")],
            [1, 2, (("insert", (7, 1)), ("update", (7, 2))), (("insert", (7, 1)), ("delete", (7,)))])
        self.assertEqual(
            [run.deliver("f"), run.deliver("e"), run.deliver("e"), run.deliver("f"), run.held("c"), run.wanted("c"),
             run.resting],
            [(((7,), None, (7, 1)),), (), (((7,), (7, 1), (7, 2)),), (((7,), (7, 2), None),), (), ((7, 2),), True])
        self.assertIs(run.right("c"), False)
        self.assertIs(run.right("h"), True)

    def test_a_new_run(self):
        run = Run(net=WIDE)
        self.assertEqual(self.told(run), ([], 0, WIDE, True, (), [((), 0)] * 6, [((), (), (), True)] * 5))


class MakingTest(Asking):
    """Promise 8: make."""

    def test_unknown_sites_go_first(self):
        run = Run(NET)
        for value in no_names() + ["e", "f"]:
            self.raised(UnknownName, lambda: run.make(value, "wrong", None), name=value)

    def test_wrong_words_go_second(self):
        run = Run(NET)
        for value in any_values() + ["Insert", "replace", ["insert"], ("insert",)]:
            self.raised(InvalidChange, lambda: run.make("c", value, None), reason="word")
            self.raised(InvalidChange, lambda: run.make("h", value, None), reason="word")

    def test_sites_that_are_no_homes(self):
        run = Run(NET)
        for word in ("insert", "update", "delete"):
            self.raised(InvalidChange, lambda: run.make("c", word, None), reason="region")

    def test_reasons_of_made_rows(self):
        run = Run(TWO_HOMES)
        run.make("a", "insert", (1, 1))
        run.make("a", "insert", (2, 1))
        run.make("a", "delete", (2,))
        before = self.told(run)
        for value in any_values() + [(1,), [1, 1], (None, 1), (True, 1)]:
            self.raised(InvalidChange, lambda: run.make("a", "insert", value), reason="row")
            self.raised(InvalidChange, lambda: run.make("b", "update", value), reason="row")
        for value in any_values() + [(1, 1), [1], (None,), (True,)]:
            if value != (1,):
                self.raised(InvalidChange, lambda: run.make("b", "delete", value), reason="key")
        for site, word, thing, reason in (
                ("a", "insert", (10, 1), "region"), ("b", "insert", (1, 1), "region"), ("a", "delete", (10,), "region"),
                ("a", "insert", (1, 2), "present"), ("a", "update", (2, 1), "missing"), ("a", "delete", (3,), "missing"),
                ("a", "insert", (2, 1), "again"), ("a", "update", (1, 2), "fixed")):
            self.raised(InvalidChange, lambda: run.make(site=site, word=word, thing=thing), reason=reason)
        self.assertEqual(self.told(run), before)
        sole = Run(SOLE)
        sole.make("h", "insert", (1, 5))
        self.raised(InvalidChange, lambda: sole.make("h", "insert", (2, 5)), reason="unique")

    def test_each_home_has_its_stamps(self):
        run = Run(TWO_HOMES)
        self.assertEqual([run.make("a", "insert", (1, 1)), run.make("b", "insert", (10, 1)),
                          run.make(site="b", word="update", thing=(10, 1)), run.make("b", "delete", (10,))], [1, 1, 2, 3])
        self.assertEqual(run.pending("g"), (("insert", (1, 10)), ("delete", (10,))))
        self.assertEqual((run.made("a"), run.made("b"), run.made("c")), (((1, 1),), (), ()))

    def test_homes_have_their_columns_in_an_order_of_their_own(self):
        run = Run(TWO_HOMES)
        run.make("a", "insert", (1, 5))
        self.assertEqual((run.held("a"), run.made("a"), run.pending("e")), (((5, 1),), ((1, 5),), (("insert", (1,)),)))

    def test_an_own_feed_sends_what_is_made_alone(self):
        net = Net(TABLE, Site("h", "r", "k", home=LOW), Site("g", "k", "r", home=HIGH), Site("c", "k", "r"),
                  Feed("a", "g", "h"), Feed("b", "h", "c", own=True), Feed("d", "h", "c"))
        run = Run(net)
        run.make("g", "insert", (20, 1))
        run.make("h", "insert", (2, 1))
        run.deliver("a")
        self.assertEqual((run.pending("b"), run.pending("d")), ((("insert", (2, 1)),), (("insert", (2, 1)), ("insert", (20, 1)))))

    def test_an_own_feed_sends_the_made_row_whatever_is_shown(self):
        run = Run(RING.with_feed(Feed("o", "h", "a", own=True)))
        run.make("h", "insert", (1, 1))
        run.make("h", "update", (1, 2))
        list(run.settle("p"))
        run.deliver("q")
        self.assertEqual(run.held("h"), ((1, 1),))
        run.make("h", "update", (1, 3))
        self.assertEqual(run.pending("o")[-1], ("update", (1, 3)))
        run.make("h", "update", (1, 3))
        self.assertEqual(run.sent("o"), 3)

    def test_stamped_sites(self):
        net = Net(TABLE, Site("h", "k", "r", home=ALL, policy="stamped"), Site("s", "r", "k", policy="stamped"), Site("c", "k"),
                  Feed("e", "h", "s", where=ONES), Feed("f", "s", "c"), Feed("g", "h", "s"))
        run = Run(net)
        for word, thing in (("insert", (1, 1)), ("update", (1, 1)), ("update", (1, 2)), ("delete", (1,))):
            run.make("h", word, thing)
        self.assertEqual(run.pending("e"), (("row", 1, (1, 1)), ("row", 2, (1, 1)), ("out", 3, (1,)), ("out", 4, (1,))))
        self.assertEqual(run.pending("g"), (("row", 1, (1, 1)), ("row", 2, (1, 1)), ("row", 3, (2, 1)), ("out", 4, (1,))))
        self.assertEqual(run.deliver("e"), (((1,), None, (1, 1)),))
        self.assertEqual(run.deliver("g"), ())
        self.assertEqual(run.deliver("g"), (((1,), (1, 1), (1, 1)),))
        self.assertEqual([run.deliver("e"), run.deliver("e")], [(), (((1,), (1, 1), None),)])
        self.assertEqual(run.deliver("g"), (((1,), None, (2, 1)),))
        self.assertEqual(run.pending("f"), (("insert", (1,)), ("delete", (1,)), ("insert", (1,))))


class DeliveringTest(Asking):
    """Promise 8: deliver, fall, pending, sent, held, made, wanted, right, resting, stuck."""

    def test_unknown_names(self):
        run = Run(NET)
        for value in no_names():
            for ask in (run.deliver, run.fall, run.pending, run.sent, run.held, run.made, run.wanted, run.right,
                        lambda name: run.fall(name, back=None), lambda name: list(run.settle("e", name)),
                        lambda name: next(run.settle(name))):
                self.raised(UnknownName, lambda: ask(value), name=value)
        for ask, name in ((run.deliver, "h"), (run.fall, "h"), (run.pending, "c"), (run.sent, "c"), (run.held, "e"),
                          (run.made, "e"), (run.wanted, "e"), (run.right, "e")):
            self.raised(UnknownName, lambda: ask(name), name=name)
        self.assertEqual(len(run), 0)

    def test_names_of_arguments(self):
        run = Run(NET)
        run.make("h", "insert", (1, 1))
        self.assertEqual(run.pending(feed="e"), (("insert", (1, 1)),))
        self.assertEqual((run.deliver(feed="e"), run.sent(feed="e")), ((((1,), None, (1, 1)),), 1))
        self.assertIsNone(run.fall(feed="e", back=1))
        self.assertEqual((run.held(site="c"), run.made(home="h"), run.wanted(site="c"), run.right(site="c")),
                         (((1, 1),), ((1, 1),), ((1, 1),), True))

    def test_nothing_pending(self):
        run = Run(NET)
        self.raised(NothingPending, lambda: run.deliver("e"), name="e")
        run.make("h", "insert", (1, 2))
        self.raised(NothingPending, lambda: run.deliver("f"), name="f")
        run.deliver("e")
        before = self.told(run)
        self.raised(NothingPending, lambda: run.deliver("e"), name="e")
        self.assertEqual(self.told(run), before)

    def test_feeds_that_wait(self):
        run = Run(NET.with_policy("c", "wait"))
        run.make("h", "insert", (1, 1))
        self.assertEqual((run.resting, run.stuck), (False, ()))
        run.deliver("e")
        self.assertEqual((run.resting, run.stuck), (True, ("f",)))
        before = self.told(run)
        self.raised(Blocked, lambda: run.deliver("f"), name="f")
        self.assertEqual(self.told(run), before)
        run.make("h", "delete", (1,))
        self.assertEqual((run.resting, run.stuck), (False, ("f",)))
        run.deliver("e")
        self.assertEqual((run.resting, run.stuck), (False, ()))
        run.deliver("f")
        self.assertEqual((run.pending("f"), run.resting, run.right("c")), ((("delete", (1,)),), False, False))

    def test_blocked_unique_values(self):
        run = Run(SOLE.with_policy("c", "wait").with_feed(Feed("f", "h", "c")))
        run.make("h", "insert", (1, 5))
        run.deliver("e")
        run.make("h", "delete", (1,))
        run.make("h", "insert", (2, 5))
        run.deliver("e")
        run.deliver("e")
        self.assertEqual((run.held("c"), run.stuck, run.resting), (((5, 2),), ("f",), True))

    def test_falls(self):
        run = Run(NET)
        for row in ((1, 1), (2, 1), (3, 1)):
            run.make("h", "insert", row)
        self.raised(InvalidFall, lambda: run.fall("e"), back=1)
        run.deliver("e")
        run.deliver("e")
        for value in any_values() + [3, 0, -1]:
            if type(value) is int and 1 <= value <= 2:
                continue
            self.raised(InvalidFall, lambda: run.fall("e", back=value), back=value)
        self.assertIsNone(run.fall("e", back=2))
        self.assertEqual((len(run.pending("e")), run.sent("e"), run.held("c")), (3, 3, ((1, 1), (2, 1))))
        self.raised(InvalidFall, lambda: run.fall("e"), back=1)
        self.assertEqual([run.deliver("e"), run.deliver("e"), run.deliver("e")], [(), (), (((3,), None, (3, 1)),)])
        run.fall("e")
        self.assertEqual(run.pending("e"), (("insert", (3, 1)),))
        self.assertEqual(list(run.events())[-1], ("fall", "e", 1))

    def test_a_fall_at_a_site_that_waits(self):
        run = Run(NET.without("f").with_policy("c", "wait"))
        run.make("h", "insert", (1, 1))
        run.deliver("e")
        run.fall("e")
        self.assertEqual((run.stuck, run.resting), (("e",), True))
        self.raised(Blocked, lambda: run.deliver("e"), name="e")

    def test_wanted_rows(self):
        run = Run(WIDE)
        # Columns of the table: a, k, r, l; keys are (k, l).
        for home, row in (("low", (5, 3, 1, 0)), ("low", (None, 4, None, 1)), ("high", (3, 10, 1, 2)), ("high", (9, 11, 2, 2))):
            run.make(home, "insert", row)
        self.assertEqual(run.wanted("low"), ((1, 0, 3, 5), (None, 1, 4, None)))
        self.assertEqual(run.wanted("high"), ((10, 2, 3, 1), (11, 2, 9, 2)))
        self.assertEqual(run.wanted("mid"), ((0, 1, 3), (2, 1, 10), (2, 2, 11)))
        self.assertEqual(run.wanted("end"), ((3, 0), (10, 2)))
        self.assertEqual(run.wanted("last"), ((1, 3, 0), (None, 4, 1), (1, 10, 2)))
        self.assertIs(run.right("last"), False)
        list(run.settle())
        self.assertEqual([run.right(site) for site in WIDE.sites], [True] * 5)

    def test_own_feeds_want_rows_of_their_home_alone(self):
        net = Net(TABLE, Site("a", "k", "r", home=LOW), Site("b", "k", "r", home=HIGH), Site("c", "k", "r"),
                  Feed("e", "a", "b"), Feed("f", "b", "c", own=True))
        run = Run(net)
        run.make("a", "insert", (1, 1))
        run.make("b", "insert", (20, 1))
        self.assertEqual((run.wanted("b"), run.wanted("c")), (((1, 1), (20, 1)), ((20, 1),)))


class SettlingTest(Asking):
    """Promise 8: settle."""

    def test_rounds(self):
        run = Run(NET)
        for row in ((1, 1), (2, 1), (3, 2)):
            run.make("h", "insert", row)
        self.assertEqual([feed for feed, _ in run.settle()], ["e", "f", "e", "f", "e"])
        self.assertEqual((run.resting, len(run)), (True, 8))
        self.assertEqual(list(run.settle()), [])

    def test_feeds_in_the_given_order_and_given_twice(self):
        def made():
            run = Run(NET)
            for key in range(3):
                run.make("h", "insert", (key, 1))
            return run
        for given, wanted in ((("f", "e"), "fefefe"), (("e",), "eee"), (("e", "f", "e"), "efeeff"), (("e", "e", "f"), "eefeff"),
                              (("f", "f"), "fff")):
            run = made()
            self.assertEqual("".join(feed for feed, _ in run.settle(*given)), wanted)

    def test_steps_are_those_of_deliver(self):
        one, other = Run(SOLE), Run(SOLE)
        for run in (one, other):
            for word, thing in (("insert", (1, 5)), ("delete", (1,)), ("insert", (2, 5))):
                run.make("h", word, thing)
        self.assertEqual(list(one.settle()), [("e", other.deliver("e")) for _ in range(3)])
        self.assertEqual(one, other)

    def test_blocked_feeds_are_passed_over(self):
        run = Run(NET.with_policy("c", "wait"))
        run.make("h", "insert", (1, 1))
        run.make("h", "delete", (1,))
        self.assertEqual([feed for feed, _ in run.settle()], ["e", "e", "f", "f"])
        run.make("h", "insert", (1, 1))
        self.assertEqual([feed for feed, _ in run.settle()], ["e"])
        self.assertEqual(run.stuck, ("f",))

    def test_nothing_is_delivered_before_it_is_asked(self):
        run = Run(NET)
        run.make("h", "insert", (1, 1))
        steps = run.settle()
        self.assertEqual(len(run), 1)
        next(steps)
        self.assertEqual(len(run), 2)

    def test_a_net_without_feeds(self):
        self.assertEqual(list(Run(chain(1)).settle()), [])

    def test_five_thousand_deliveries(self):
        run = Run(RING)
        run.make("h", "insert", (1, 1))
        run.deliver("p")
        run.make("h", "delete", (1,))
        run.deliver("p")
        delivered = [feed for feed, _ in run.settle()]
        self.assertEqual((len(delivered), delivered[:4]), (5000, ["q", "p", "q", "p"]))
        self.assertIs(run.resting, False)
        self.assertEqual(len(run), 5004)

    def test_it_ends_within_a_round(self):
        run = Run(RING)
        run.make("h", "insert", (1, 1))
        run.deliver("p")
        run.make("h", "delete", (1,))
        run.deliver("p")
        delivered = [feed for feed, _ in run.settle("q", "q", "p")]
        self.assertEqual(len(delivered), 5000)
        self.assertIs(run.resting, False)


class EventsTest(Asking):
    """Promise 8: events, undo, twin, trial, on_trial, play, == and len."""

    def filled(self):
        run = Run(NET)
        run.make("h", "insert", (1, 1))
        run.make("h", "insert", (2, 2))
        run.deliver("e")
        run.fall("e")
        run.deliver("f")
        return run

    def test_events(self):
        run = self.filled()
        wanted = [("make", "h", "insert", (1, 1)), ("make", "h", "insert", (2, 2)), ("deliver", "e"), ("fall", "e", 1),
                  ("deliver", "f")]
        self.assertEqual((list(run.events()), len(run)), (wanted, 5))
        told = []
        for event in run.events():
            told.append(event)
            run.undo(0)
        self.assertEqual(told, wanted)

    def test_undo(self):
        run, states = Run(NET), []
        for event in self.filled().events():
            states.append(self.told(run))
            play(run, [event])
        for state in reversed(states):
            self.assertIsNone(run.undo())
            self.assertEqual(self.told(run), state)
        run = self.filled()
        run.undo(3)
        self.assertEqual(self.told(run), states[2])
        run.undo(count=2)
        self.assertEqual(self.told(run), states[0])
        run.undo(0)
        self.assertEqual(run.make("h", "insert", (5, 5)), 1)

    def test_wrong_undos(self):
        run = self.filled()
        before = self.told(run)
        for value in any_values() + [6, -1, 10 ** 29, (1,)]:
            if type(value) is int and 0 <= value <= 5:
                continue
            self.raised(InvalidUndo, lambda: run.undo(value), count=value)
            self.assertEqual(self.told(run), before)
        self.raised(InvalidUndo, lambda: Run(NET).undo(), count=1)

    def test_twins_are_independent(self):
        run = self.filled()
        twin, before = run.twin(), self.told(run)
        self.assertEqual(twin, run)
        self.assertEqual(self.told(twin), before)
        list(twin.settle())
        twin.make("h", "delete", (1,))
        self.assertEqual(self.told(run), before)
        after = self.told(twin)
        run.undo(5)
        run.make("h", "insert", (9, 9))
        self.assertEqual(self.told(twin), after)
        twin.undo(len(twin))
        self.assertEqual(self.told(twin), self.told(Run(NET)))

    def test_twins_of_each_policy(self):
        chance = random.Random(12)
        for _ in range(60):
            run = Run(chance_net(chance))
            for _ in range(12):
                make_by_chance(chance, run)
                deliver_by_chance(chance, run)
            twin, before = run.twin(), self.told(run)
            self.assertEqual(self.told(twin), before)
            for _ in range(6):
                make_by_chance(chance, twin)
                deliver_by_chance(chance, twin)
            self.assertEqual(self.told(run), before)
            play(run, list(twin.events())[len(run):])
            self.assertEqual(self.told(run), self.told(twin))
            run.undo(len(run) - len(before[0]))
            self.assertEqual(self.told(run), before)

    def test_trials(self):
        run = self.filled()
        before = self.told(run)
        with run.trial() as tried:
            self.assertIs(tried, run)
            list(run.settle())
            run.make("h", "delete", (1,))
            self.assertEqual(len(run), 8)
        self.assertEqual(self.told(run), before)

    def test_the_block_counts_and_not_the_call(self):
        run = Run(NET)
        trial = run.trial()
        run.make("h", "insert", (1, 1))
        before = self.told(run)
        with trial:
            run.undo()
        self.assertEqual(self.told(run), before)
        run.make("h", "insert", (2, 1))
        before = self.told(run)
        with trial, trial as inner:
            inner.deliver("e")
        self.assertEqual(self.told(run), before)

    def test_errors_go_on_behind_a_trial(self):
        run = self.filled()
        before = self.told(run)
        for kind in (ValueError, KeyError, KeyboardInterrupt, NothingPending):
            with self.assertRaises(kind):
                with run.trial():
                    run.deliver("e")
                    raise kind("e")
            self.assertEqual(self.told(run), before)
        with self.assertRaises(InvalidFall):
            with run.trial():
                run.fall("f", back=9)
        self.assertEqual(self.told(run), before)

    def test_trials_within_trials(self):
        run = self.filled()
        before = self.told(run)
        with run.trial():
            run.deliver("e")
            between = self.told(run)
            with run.trial():
                run.undo(6)
                run.make("h", "insert", (4, 4))
            self.assertEqual(self.told(run), between)
            play(run, [("deliver", "e")])
        self.assertEqual(self.told(run), before)

    def test_on_trial(self):
        run = self.filled()
        before = self.told(run)
        for events in ([("deliver", "e"), ("deliver", "e")], (("deliver", "e"), ("deliver", "e"))):
            shown = run.on_trial(events=events)
            self.assertEqual(list(shown.items()), [("h", ((1, 1), (2, 2))), ("c", ((1, 1), (2, 2)))])
            shown["c"] = None
            self.assertEqual(self.told(run), before)
        self.assertEqual(run.on_trial(())["c"], ((1, 1),))
        self.raised(NothingPending, lambda: run.on_trial([("deliver", "e"), ("deliver", "f")]), name="f")
        self.assertEqual(self.told(run), before)

    def test_play(self):
        run = self.filled()
        for events in (list(run.events()), tuple(run.events())):
            other = Run(NET)
            self.assertIsNone(play(run=other, events=events))
            self.assertEqual(other, run)
            self.assertEqual(self.told(other), self.told(run))
        self.assertIsNone(play(run, ()))
        self.assertEqual(len(run), 5)

    def test_play_changes_all_or_nothing(self):
        run = self.filled()
        before = self.told(run)
        first = [("make", "h", "delete", (2,)), ("deliver", "e")]
        for event, kind in ((("make", "c", "insert", (1, 1)), InvalidChange), (("make", "x", "insert", (1, 1)), UnknownName),
                            (("deliver", "f"), NothingPending), (("fall", "f", 2), InvalidFall)):
            with self.assertRaises(kind):
                play(run, [*first, event])
            self.assertEqual(self.told(run), before)

    def test_equal_runs(self):
        def made(net=NET, *events):
            run = Run(net)
            play(run, events)
            return run
        insert, deliver = ("make", "h", "insert", (1, 1)), ("deliver", "e")
        self.assertEqual(made(NET, insert, deliver), made(Net.of(TABLE, [NET.site("h"), NET.site("c"), NET.feed("e"),
                                                                       NET.feed("f")]), insert, deliver))
        others = [made(), made(NET, insert), made(NET, insert, ("deliver", "f")), made(NET, insert, ("deliver", "f"), deliver),
                  made(NET, ("make", "h", "insert", (1, 2)), deliver), made(NET.with_filter("f", ALL), insert, deliver)]
        for other in others + any_values():
            self.assertIs(made(NET, insert, deliver) == other, False)
            self.assertIs(made(NET, insert, deliver) != other, True)

    def test_the_net_that_was_handed_in_stays(self):
        net = Net(TABLE, NET.site("h"), NET.site("c"), NET.feed("e"), NET.feed("f"))
        run = Run(net)
        run.make("h", "insert", (1, 1))
        run.leave("f", LOW)
        self.assertEqual((net, run.net == net), (NET, False))
        self.assertEqual(run.net.sites, net.sites)


class ChanceTest(Asking):
    """Promise 8: against the document's words."""

    def check(self, run, model, feeds, sites):
        for feed in feeds:
            self.assertEqual((run.pending(feed), run.sent(feed)), (model.pending(feed), len(model.sent[feed])))
        for site in sites:
            self.assertEqual((run.held(site), run.made(site)), (model.held(site), model.made(site)))
        self.assertEqual(run.stuck, tuple(feed for feed in feeds if model.waits(feed)))
        self.assertEqual(run.resting, all(model.waits(feed) or not model.pending(feed) for feed in feeds))

    def do(self, chance, run, model):
        """Does one thing in both; whether both of them took it."""
        net, kind = run.net, chance.random()
        feed = chance.choice(net.feeds)
        if kind < 0.4:
            row, word = chance_row(chance, net.table), chance.choice(("insert", "update", "delete"))
            things = (chance.choice(net.sites), word, net.table.key_of(row) if word == "delete" else row)
            return self.both(lambda: run.make(*things), lambda: model.make(*things))
        if kind < 0.9:
            return self.both(lambda: run.deliver(feed), lambda: model.deliver(feed))
        back = chance.randrange(1, 4)
        return self.both(lambda: run.fall(feed, back=back), lambda: model.fall(feed, back))

    def both(self, one, other):
        try:
            wanted = other()
        except Stop as stop:
            with self.assertRaises((InvalidChange, NothingPending, Blocked, InvalidFall)) as caught:
                one()
            named = {"pending": NothingPending, "blocked": Blocked, "fall": InvalidFall}
            self.assertIs(type(caught.exception), named.get(str(stop), InvalidChange))
            if isinstance(caught.exception, InvalidChange):
                self.assertEqual(caught.exception.reason, str(stop))
            return False
        self.assertEqual(one(), wanted)
        return True

    def test_runs_by_chance(self):
        chance = random.Random(13)
        for _ in range(120):
            net = chance_net(chance)
            run, model, done = Run(net), Model(net), 0
            for _ in range(60):
                done += self.do(chance, run, model)
                self.check(run, model, net.feeds, net.sites)
            self.assertEqual(len(run), done)
            for site in net.sites:
                self.assertEqual(run.wanted(site), model.wanted(site))
                self.assertIs(run.right(site), model.wanted(site) == model.held(site))
            again = Run(net)
            play(again, list(run.events()))
            self.assertEqual(self.told(again), self.told(run))
            self.assertEqual(run.net, net)


if __name__ == "__main__":
    unittest.main()
