"""Points 24 and 33: the steps of runs on feeds."""

import random
import unittest

from chances import chance_row, deliver_by_chance, make_by_chance
from examples import ALL, HIGH, LOW, NET, NEVER, ONES, SOLE, TABLE
from model import Model, Stop
from speaklast.errors import InvalidFall, InvalidStep, InvalidUndo, UnknownName
from speaklast.feeds import Feed
from speaklast.filters import Filter
from speaklast.nets import Net
from speaklast.ranges import Ranges
from speaklast.runs import Run, play
from speaklast.sites import Site
from speaklast.tables import Table
from values import any_values, no_names

WORDS = ("leave", "sweep", "copy", "again")
FEW = Filter.within("k", Ranges.between(2, 3))


def step(run, word, feed, box):
    """Calls the step of this word."""
    return {"leave": run.leave, "sweep": run.sweep, "copy": run.copy, "again": run.again}[word](feed, box)


def filled(net=NET, rows=((1, 1), (2, 2), (3, 1), (10, 1))):
    """A run with these rows, all delivered."""
    run = Run(net)
    for row in rows:
        run.make("h", "insert", row)
    list(run.settle())
    return run


class Asking(unittest.TestCase):
    def refused(self, reason, make):
        with self.assertRaises(InvalidStep) as caught:
            make()
        self.assertEqual(caught.exception.reason, reason)


class RefusedTest(Asking):
    """Promise 8: what the steps refuse, in the order told."""

    def test_unknown_feeds_go_first(self):
        run = Run(NET)
        for value in no_names() + ["h", "c"]:
            for ask in [lambda name, word=word: step(run, word, name, None) for word in WORDS] + [run.rest]:
                with self.assertRaises(UnknownName) as caught:
                    ask(value)
                self.assertIs(caught.exception.name, value)

    def test_feeds_on_which_no_step_is_allowed(self):
        back = NET.with_feed(Feed("g", "c", "h"))
        once = Net(Table("k", "r", key=("k",), reuse=False), *[NET.site(site) for site in NET.sites],
                   *[NET.feed(feed) for feed in NET.feeds])
        cases = [(back, "g"), (once, "e"), (SOLE, "e")]
        cases += [(NET.with_policy("c", word), "e") for word in ("wait", "skip", "shares")]
        stamped = Net(TABLE, NET.site("h"), Site("c", "k", "r", policy="stamped"), Feed("e", "h", "c", own=True))
        for net, feed in [*cases, (stamped, "e")]:
            run = Run(net)
            run.make("h", "insert", (1, 1))
            for word in WORDS:
                self.refused("feed", lambda: step(run, word, feed, None))
            self.refused("feed", lambda: run.rest(feed))
            self.assertEqual((len(run), run.net), (1, net))

    def test_values_that_are_no_box(self):
        run = filled()
        before = (list(run.events()), run.net)
        for value in any_values() + [ONES, ONES & LOW, Filter.missing("r")]:
            if isinstance(value, Filter) and value.columns in ((), ("k",)):
                continue
            for word in WORDS:
                self.refused("box", lambda: step(run, word, "e", value))
        self.assertEqual((list(run.events()), run.net), before)

    def test_boxes_over_no_column_and_over_two(self):
        table = Table("l", "k", "r", key=("k", "l"))
        net = Net(table, Site("h", "r", "k", "l", home=ALL), Site("c", "k", "l"), Feed("e", "h", "c", own=True))
        run = Run(net)
        for box in (ALL, NEVER, LOW, Filter.within("l", Ranges.of(1)) & HIGH, Filter.missing("l")):
            for word in WORDS:
                self.assertIsNone(step(run, word, "e", box))
        self.assertEqual(len(run), 20)

    def test_a_rest_with_pending_messages(self):
        run = Run(NET)
        run.make("h", "insert", (1, 1))
        self.refused("pending", lambda: run.rest("e"))
        run.deliver("e")
        self.assertIsNone(run.rest(feed="e"))
        run.deliver("f")
        run.fall("f")
        self.refused("pending", lambda: run.rest("f"))
        self.assertEqual(list(run.events())[-1], ("fall", "f", 1))


class SentTest(Asking):
    """Promise 8: what the steps send."""

    def test_leave(self):
        run = filled()
        self.assertIsNone(run.leave(feed="f", box=FEW))
        self.assertEqual((run.pending("f"), run.net.feed("f").where, run.net.feed("e").where), ((), ONES & ~FEW, ALL))
        run.make("h", "update", (3, 5))
        run.make("h", "update", (1, 5))
        self.assertEqual(run.pending("f"), (("delete", (1,)),))
        self.assertEqual(len(run.pending("e")), 2)
        self.assertIn(("leave", "f", FEW), list(run.events()))

    def test_sweep(self):
        run = filled()
        run.make("h", "insert", (0, 1))
        self.assertIsNone(run.sweep(feed="f", box=LOW))
        self.assertEqual(run.pending("f"), (("insert", (0, 1)), ("delete", (0,)), ("delete", (1,)), ("delete", (3,))))
        self.assertEqual(run.net.feed("f").where, ONES & ~LOW)
        run.make("h", "delete", (1,))
        run.make("h", "delete", (10,))
        self.assertEqual(run.pending("f")[4:], (("delete", (10,)),))
        list(run.settle("f"))
        self.assertEqual(run.held("c"), ((2, 2),))

    def test_copy(self):
        run = filled(NET.with_filter("f", NEVER))
        self.assertIsNone(run.copy("f", FEW))
        self.assertEqual(run.pending("f"), (("replace", FEW, ((2, 2), (3, 1))),))
        self.assertEqual(run.net.feed("f").where, NEVER | FEW)
        run.make("h", "update", (2, 7))
        run.make("h", "update", (1, 7))
        self.assertEqual(run.pending("f")[1:], (("update", (2, 7)),))
        self.assertEqual(run.deliver("f"), ())
        self.assertEqual(run.deliver("f"), (((2,), (2, 2), (2, 7)),))

    def test_a_copy_tells_the_rows_of_the_new_filter_in_the_box_alone(self):
        run = filled(NET.with_filter("f", ONES & LOW))
        run.copy("f", Filter.within("k", Ranges.between(3, None)))
        self.assertEqual(run.pending("f")[-1][2], ((3, 1), (10, 1)))
        run.again("f", FEW)
        self.assertEqual(run.pending("f")[-1][2], ((3, 1),))

    def test_again(self):
        run = filled()
        self.assertIsNone(run.again(feed="f", box=LOW))
        self.assertEqual((run.pending("f"), run.net), ((("replace", LOW, ((1, 1), (3, 1))),), NET))
        self.assertEqual(run.deliver("f"), (((2,), (2, 2), None),))
        run.again("f", NEVER)
        self.assertEqual((run.pending("f"), run.deliver("f")), ((("replace", NEVER, ()),), ()))

    def test_what_is_sent_is_what_the_source_shows_and_an_own_feed_tells_what_is_made(self):
        net = Net(TABLE, Site("h", "r", "k", home=ALL), Site("a", "k", "r"), Site("c", "k"), Feed("p", "h", "a"),
                  Feed("q", "a", "h"), Feed("o", "h", "c", own=True, where=ONES), Feed("e", "h", "c", where=ONES))
        run = Run(net)
        run.make("h", "insert", (1, 1))
        run.make("h", "update", (1, 2))
        run.make("h", "insert", (2, 1))
        run.deliver("p")
        run.deliver("q")
        self.assertEqual((run.held("h"), run.made("h")), (((1, 1), (1, 2)), ((1, 2), (2, 1))))
        for feed, keys in (("o", (2,)), ("e", (1, 2))):
            many = len(run.pending(feed))
            with run.trial():
                run.again(feed, ALL)
                self.assertEqual(run.pending(feed)[many:], (("replace", ALL, tuple((key,) for key in keys)),))
            with run.trial():
                run.sweep(feed, ALL)
                self.assertEqual(run.pending(feed)[many:], tuple(("delete", (key,)) for key in keys))

    def test_what_the_steps_change_goes_on(self):
        net = Net(TABLE, Site("h", "k", "r", home=ALL), Site("c", "k", "r"), Site("d", "r", "k"), Feed("e", "h", "c"),
                  Feed("f", "c", "d"))
        run = filled(net)
        run.make("h", "update", (1, 9))
        run.again("e", LOW)
        run.make("h", "update", (1, 1))
        list(run.settle("e"))
        self.assertEqual(run.pending("f"), (("update", (9, 1)), ("update", (1, 1))))

    def test_rests_hold_falls_back(self):
        run = filled()
        run.rest("e")
        with self.assertRaises(InvalidFall):
            run.fall("e")
        run.make("h", "insert", (5, 5))
        run.make("h", "insert", (6, 6))
        list(run.settle("e"))
        with self.assertRaises(InvalidFall) as caught:
            run.fall("e", back=3)
        self.assertEqual(caught.exception.back, 3)
        run.fall("e", back=2)
        self.assertEqual(len(run.pending("e")), 2)
        run.fall("f", back=3)
        list(run.settle("e"))
        run.rest("e")
        with self.assertRaises(InvalidFall):
            run.fall("e")

    def test_a_copy_falls_as_any_message(self):
        run = filled()
        run.copy("f", FEW)
        run.deliver("f")
        run.make("h", "delete", (2,))
        list(run.settle())
        run.fall("f", back=2)
        self.assertEqual(run.deliver("f"), (((2,), None, (2, 2)),))
        self.assertEqual(run.deliver("f"), (((2,), (2, 2), None),))


class EventsTest(Asking):
    """Promise 8: steps are events."""

    def test_events_and_play(self):
        run = filled()
        run.rest("f")
        for word in WORDS:
            step(run, word, "f", FEW)
        told = list(run.events())
        self.assertEqual(told[-5:], [("rest", "f"), ("leave", "f", FEW), ("sweep", "f", FEW), ("copy", "f", FEW),
                                     ("again", "f", FEW)])
        other = Run(NET)
        play(other, told)
        self.assertEqual((other, other.net, other.pending("f")), (run, run.net, run.pending("f")))
        self.assertEqual(run.net.feed("f").where, ONES & ~FEW & ~FEW | FEW)

    def test_undo_takes_back_filters_and_rests(self):
        run = filled()
        run.rest("f")
        run.leave("f", FEW)
        run.copy("f", LOW)
        run.undo(2)
        self.assertEqual((run.net, run.pending("f")), (NET, ()))
        with self.assertRaises(InvalidFall):
            run.fall("f")
        run.undo()
        self.assertIsNone(run.fall("f"))
        with self.assertRaises(InvalidUndo):
            run.undo(99)

    def test_trials_and_twins(self):
        run = filled()
        twin = run.twin()
        with run.trial():
            run.sweep("f", ALL)
            run.leave("e", FEW)
            self.assertNotEqual(run.net, NET)
        self.assertEqual((run.net, run.pending("f")), (NET, ()))
        twin.sweep("f", ALL)
        self.assertEqual((run.net, run == twin), (NET, False))

    def test_runs_that_were_begun_with_other_nets_are_not_equal(self):
        one, other = Run(NET), Run(NET.with_filter("f", ONES & ~LOW))
        one.leave("f", LOW)
        self.assertEqual(one.net, other.net)
        self.assertNotEqual(one, other)

    def test_sixty_steps(self):
        run = filled()
        for at in range(60):
            step(run, WORDS[at % 4], "f", Filter.within("k", Ranges.of(at % 5)) | FEW)
        list(run.settle())
        self.assertEqual((run.resting, len(run.on_trial([])["c"])), (True, 4))
        twin = run.twin()
        twin.undo(3)
        self.assertNotEqual(twin, run)
        self.assertEqual(run.twin().net, run.net)


class ChanceTest(Asking):
    """Promise 8: against the words of point 33."""

    def test_steps_by_chance(self):
        chance = random.Random(14)
        net = Net(Table("k", "r", "u", key=("k",)), Site("h", "u", "k", "r", home=LOW & ~FEW, policy="shares"),
                  Site("i", "k", "r", "u", home=FEW), Site("a", "r", "k", "u"), Site("b", "u", "k"), Site("s", "k", "u", policy="skip"),
                  Feed("e", "h", "a"), Feed("f", "i", "a", where=ONES), Feed("g", "a", "b"), Feed("o", "h", "b", own=True),
                  Feed("p", "b", "s"), Feed("q", "i", "h"))
        boxes = [ALL, NEVER, LOW, HIGH, FEW, ~FEW, Filter.within("k", Ranges.of(0, 1))]
        for _ in range(50):
            run, model = Run(net), Model(net)
            for _ in range(60):
                self.do(chance, run, model, boxes)
                for feed in net.feeds:
                    self.assertEqual(run.pending(feed), model.pending(feed))
                    self.assertEqual(run.net.feed(feed).where, model.where[feed])
                for site in net.sites:
                    self.assertEqual((run.held(site), run.wanted(site)), (model.held(site), model.wanted(site)))
            again = Run(net)
            play(again, list(run.events()))
            self.assertEqual((again, again.net), (run, run.net))

    def do(self, chance, run, model, boxes):
        kind, feed = chance.random(), chance.choice(run.net.feeds)
        if kind < 0.3:
            many = len(run)
            if make_by_chance(chance, run):
                model.make(*list(run.events())[many][1:])
        elif kind < 0.7:
            many = len(run)
            if deliver_by_chance(chance, run):
                model.deliver(list(run.events())[many][1])
        elif kind < 0.8 and feed in ("e", "f", "g", "o"):
            self.both(InvalidStep, lambda: run.rest(feed), lambda: model.rest(feed))
        elif kind < 0.9:
            back = chance.randrange(1, 4)
            self.both(InvalidFall, lambda: run.fall(feed, back=back), lambda: model.fall(feed, back))
        elif feed in ("e", "f", "g", "o"):
            word, box = chance.choice(WORDS), chance.choice(boxes)
            step(run, word, feed, box)
            model.step(word, feed, box)
        else:
            self.refused("feed", lambda: step(run, chance.choice(WORDS), feed, chance.choice(boxes)))

    def both(self, kind, one, other):
        try:
            other()
        except Stop:
            self.assertRaises(kind, one)
        else:
            one()


if __name__ == "__main__":
    unittest.main()
