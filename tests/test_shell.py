"""Point 38: the shell."""

import random
import unittest

from chances import chance_net
from examples import ALL, HIGH, LOW, NET, NEVER, ONES, RING, SOLE, WIDE, chain
from speaklast.errors import (Blocked, InvalidChange, InvalidFall, InvalidNet, InvalidStep, InvalidTable, InvalidText, InvalidUndo, NothingPending,
                              TooMany,
                              UnknownCommand, UnknownName)
from speaklast.filters import Filter
from speaklast.judging import judged
from speaklast.plans import plan
from speaklast.ranges import Ranges
from speaklast.rules import failings
from speaklast.runs import Run
from speaklast.shell import Shell
from speaklast.texts import show_events, show_net
from speaklast.wrongs import fewest_changes
from values import any_values

ERRORS = (Blocked, InvalidChange, InvalidFall, InvalidNet, InvalidStep, InvalidTable, InvalidText, InvalidUndo, NothingPending, TooMany,
          UnknownCommand, UnknownName)
LONG = "table k r / key k / home h put k r : always / site c put k r / feed e h c always / feed f h c in r 1"
ONE = NET.with_filter("f", NEVER)
COMMANDS = ("net", "show", "make", "deliver", "fall", "leave", "sweep", "copy", "again", "rest", "held", "made", "wanted", "right", "pending",
            "resting",
            "stuck", "settle", "undo", "judge", "fewest", "failings", "plan", "mend")


def in_a_line(net):
    return show_net(net).replace("\n", " / ")


def begun(net=NET):
    shell = Shell()
    shell.say("net " + in_a_line(net))
    return shell


class Asking(unittest.TestCase):
    def raised(self, shell, line, error, *fields):
        with self.assertRaises(error, msg=line) as caught:
            shell.say(line)
        self.assertIs(type(caught.exception), error, line)
        self.assertEqual(tuple(vars(caught.exception).values()), fields, line)

    def unknown(self, shell, line):
        with self.assertRaises(UnknownCommand) as caught:
            shell.say(line)
        self.assertIs(caught.exception.line, line)

    def said(self, shell, *pairs):
        for line, answer in pairs:
            self.assertEqual(shell.say(line), answer, line)


class AnswersTest(Asking):
    """Promise 8."""

    def test_example_of_the_document(self):
        self.assertEqual(Shell().say_all("net table k r / key k / home h put k r : always / site c put k r / feed e h c always", "make h insert 7 1",
                                         "deliver e", "held c", "judge", "resting"), ["ok", "stamp 1", "7: - > 7,1", "7,1", "right", "yes"])

    def test_a_run_line_by_line(self):
        shell = Shell()
        self.said(shell, ("net " + LONG, "ok"), ("show", LONG), ("resting", "yes"), ("stuck", "-"), ("held c", "-"), ("made h", "-"),
                  ("make h insert 7 1", "stamp 1"),
                  ("resting", "no"), ("make h insert -3 none", "stamp 2"), ("made h", "-3,none 7,1"), ("made c", "-"), ("wanted c", "-3,none 7,1"),
                  ("right c", "no"),
                  ("right h", "yes"), ("pending e", "2"), ("pending f", "1"), ("deliver f", "7: - > 7,1"), ("deliver e", "nothing"),
                  ("deliver e", "-3: - > -3,none"),
                  ("right c", "yes"), ("make h update 7 2", "stamp 3"), ("deliver e", "7: 7,1 > 7,2"), ("settle", "1"), ("held c", "-3,none"),
                  ("make h delete -3", "stamp 4"),
                  ("settle", "1"), ("held c", "-"), ("fall e 4", "ok"), ("pending e", "4"), ("undo 1", "ok"), ("pending e", "0"), ("undo 0", "ok"),
                  ("judge", "wrong 6"),
                  ("fewest", "2"), ("failings", "1"))

    def test_more_than_one_step(self):
        shell = begun(SOLE)
        self.said(shell, ("make h insert 1 5", "stamp 1"), ("deliver e", "1: - > 5,1"), ("make h delete 1", "stamp 2"),
                  ("make h insert 2 5", "stamp 3"),
                  ("make h update 2 none", "stamp 4"), ("make h update 2 5", "stamp 5"), ("settle", "4"), ("held c", "5,2"), ("undo 4", "ok"),
                  ("held c", "5,1"), ("pending e", "4"))
        apart = begun(SOLE.with_filter("e", LOW).with_feed(NET.with_filter("f", HIGH).feed("f")))
        self.said(apart, ("make h insert 1 5", "stamp 1"), ("make h delete 1", "stamp 2"), ("make h insert 20 5", "stamp 3"),
                  ("deliver f", "20: - > 5,20"),
                  ("deliver e", "20: 5,20 > -; 1: - > 5,1"))
        wide = begun(WIDE)
        self.said(wide, ("make high insert 1 20 3 4", "stamp 1"), ("deliver lb", "20,4: - > 4,3,20"), ("held mid", "4,3,20"),
                  ("made high", "1,20,3,4"))

    def test_falls_and_stuck(self):
        shell = begun(NET.with_policy("c", "wait"))
        self.said(shell, ("make h insert 7 1", "stamp 1"), ("deliver e", "7: - > 7,1"), ("stuck", "f"), ("resting", "yes"), ("fall e 1", "ok"),
                  ("stuck", "e f"), ("settle", "0"))

    def test_steps(self):
        shell = begun(ONE)
        self.said(shell, ("make h insert 7 1", "stamp 1"), ("make h insert 17 1", "stamp 2"), ("settle", "2"), ("leave e in k 10..", "ok"),
                  ("rest e", "ok"),
                  ("copy f in k 10..", "ok"), ("pending f", "1"), ("deliver f", "nothing"),
                  ("show", in_a_line(ONE.with_filter("e", ALL & ~HIGH).with_filter("f", NEVER | HIGH))),
                  ("sweep e in k 7", "ok"), ("deliver e", "7: 7,1 > -"), ("again f in k ..", "ok"), ("pending f", "1"), ("undo 5", "ok"),
                  ("held c", "7,1 17,1"))

    def test_judge_fewest_failings(self):
        waiting = NET.without("f").with_policy("c", "wait")
        for net in (NET, RING, waiting, chain(3), NET.with_policy("c", "wait"), chain(1), WIDE):
            shell = begun(net)
            for line, falls in (("judge", False), ("judge falls", True)):
                told = judged(net, falls=falls)
                self.said(shell, (line, "right" if told[0] == "right" else f"wrong {len(told[1])}"))
            self.said(shell, ("fewest", str(fewest_changes(net))), ("failings", str(len(list(failings(net))))))
        self.said(begun(waiting), ("judge", "right"), ("judge falls", "wrong 3"))

    def test_plan(self):
        two = NET.with_filter("e", LOW).with_filter("f", HIGH)
        shell = begun(ONE)
        answer = shell.say("plan " + in_a_line(two))
        self.assertEqual(answer, show_events(plan(ONE, two)[1]).replace("\n", " / "))
        self.assertEqual([line.split(" ")[:2] for line in answer.split(" / ")], [["leave", "e"], ["rest", "e"], ["copy", "f"]])
        self.said(shell, ("plan " + in_a_line(ONE), "-"), ("plan " + in_a_line(NET), "none wrong"), ("plan " + in_a_line(RING), "none akin"),
                  ("plan " + in_a_line(ONE.with_filter("e", ONES)), "none feed"))
        # The run's net is the one with its filters as they are now.
        shell.say_all(*answer.split(" / "))
        self.said(shell, ("plan " + in_a_line(two), "-"))
        self.assertEqual(shell.say("plan " + in_a_line(ONE)).split(" ")[0], "leave")

    def test_mend(self):
        shell = begun()
        self.said(shell, ("mend skip 1 shares 5", "put shares 5"), ("mend shares 5 skip 1", "put shares 5"), ("mend skip 1", "none"),
                  ("mend stamped 1000000", "stamped stamped 2000000"),
                  ("mend shares 0", "put shares 0"), ("show", LONG))
        # Falls are not asked.
        self.said(begun(NET.without("f").with_policy("c", "wait")), ("mend put 1", "put wait 0"))

    def test_a_new_net(self):
        shell = begun()
        shell.say("make h insert 1 1")
        self.said(shell, ("net " + in_a_line(RING), "ok"), ("show", in_a_line(RING)), ("made h", "-"))
        self.raised(shell, "undo 1", InvalidUndo, 1)

    def test_against_a_run_by_chance(self):
        """Lines by chance, and what the functions tell of a run of its own."""
        chance = random.Random(91)
        for _ in range(60):
            net = chance_net(chance)
            shell, run = begun(net), Run(net)
            for _ in range(40):
                line, make = self.some_line(chance, run)
                try:
                    wanted = make()
                except ERRORS as error:
                    self.raised(shell, line, type(error), *vars(error).values())
                else:
                    self.assertEqual(shell.say(line), wanted, line)
            self.assertEqual(shell.say("show"), in_a_line(run.net))

    def some_line(self, chance, run):
        net = run.net
        site, feed = chance.choice(net.sites + ("zz",)), chance.choice(net.feeds + net.feeds + ("zz",))
        row = tuple(chance.choice((None, 0, 1, 2)) for _ in net.table.columns)
        word, back = chance.choice(("insert", "insert", "update", "delete")), chance.randint(1, 3)
        thing = row[:len(net.table.key)] if word == "delete" else row
        def rows(told):
            return " ".join(",".join("none" if value is None else str(value) for value in row) for row in told) or "-"
        def values(told):
            return "-" if told is None else rows((told,))
        def steps():
            return "; ".join(f"{values(key)}: {values(old)} > {values(new)}" for key, old, new in run.deliver(feed)) or "nothing"
        box = chance.choice(((ALL, "always"), (LOW, "in k ..9"), (ONES, "in r 1")))
        step = chance.choice(("leave", "sweep", "copy", "again"))
        return chance.choice([
            ("make " + " ".join([site, word] + rows((thing,)).split(",")), lambda: f"stamp {run.make(site, word, thing)}"),
            ("make " + " ".join([net.homes[0], word] + rows((thing,)).split(",")), lambda: f"stamp {run.make(net.homes[0], word, thing)}"),
            (f"deliver {feed}", steps), (f"deliver {feed}", steps), (f"deliver {feed}", steps),
            (f"fall {feed} {back}", lambda: "ok" if run.fall(feed, back=back) is None else ""),
            (f"held {site}", lambda: rows(run.held(site))), (f"made {site}", lambda: rows(run.made(site))),
                              (f"wanted {site}", lambda: rows(run.wanted(site))),
            (f"right {site}", lambda: "yes" if run.right(site) else "no"), (f"pending {feed}", lambda: str(len(run.pending(feed)))),
            ("resting", lambda: "yes" if run.resting else "no"), ("stuck", lambda: " ".join(run.stuck) or "-"),
                              ("settle", lambda: str(len(list(run.settle())))),
            (f"undo {back}", lambda: "ok" if run.undo(back) is None else ""), (f"rest {feed}", lambda: "ok" if run.rest(feed) is None else ""),
            (f"{step} {feed} {box[1]}", lambda: "ok" if getattr(run, step)(feed, box[0]) is None else ""),
        ])


class AllOrNothingTest(Asking):
    """Promise 8: what is refused changes nothing."""

    def test_say_all(self):
        shell = begun()
        self.assertEqual(shell.say_all(), [])
        self.assertEqual(shell.say_all("make h insert 1 1", "pending e"), ["stamp 1", "1"])
        for last in ("deliver x", "make h insert 5 5", "held", "deliver e 1", None, "fall e 9", "net x"):
            with self.assertRaises(ERRORS):
                shell.say_all("make h insert 2 1", "settle", "net " + in_a_line(RING), "make h insert 5 5", last)
            self.said(shell, ("made h", "1,1"), ("held c", "-"), ("show", LONG), ("pending e", "1"))
        self.assertEqual(shell.say_all("deliver e", "undo 2", "made h"), ["1: - > 1,1", "ok", "-"])

    def test_say_all_without_a_run(self):
        shell = Shell()
        with self.assertRaises(UnknownCommand):
            shell.say_all("net " + LONG, "made h", "x")
        self.unknown(shell, "made h")
        with self.assertRaises(UnknownCommand):
            shell.say_all("made h", "net " + LONG)
        self.assertEqual(shell.say_all("net " + LONG, "made h"), ["ok", "-"])

    def test_errors_of_the_functions(self):
        shell = begun(NET.with_policy("c", "wait"))
        shell.say_all("make h insert 7 1", "deliver e")
        before = shell.say_all("made h", "held c", "pending e", "pending f", "show")
        for line, error, field in (("make x insert 1 1", UnknownName, "x"), ("make c insert 1 1", InvalidChange, "region"),
                                   ("make h insert 1", InvalidChange, "row"),
                                   ("make h insert none 1", InvalidChange, "row"), ("make h delete none", InvalidChange, "key"),
                                   ("make h insert 7 2", InvalidChange, "present"),
                                   ("make h delete 1", InvalidChange, "missing"), ("deliver h", UnknownName, "h"),
                                   ("deliver e", NothingPending, "e"), ("deliver f", Blocked, "f"),
                                   ("fall e 2", InvalidFall, 2), ("fall x 1", UnknownName, "x"), ("undo 3", InvalidUndo, 3),
                                   ("undo " + "9" * 30, InvalidUndo, 10 ** 30 - 1),
                                   ("held e", UnknownName, "e"), ("made e", UnknownName, "e"), ("wanted e", UnknownName, "e"),
                                   ("right e", UnknownName, "e"),
                                   ("pending h", UnknownName, "h"), ("leave e always", InvalidStep, "feed"), ("leave x always", UnknownName, "x"),
                                   ("rest f", InvalidStep, "feed")):
            self.raised(shell, line, error, field)
            self.assertEqual(shell.say_all("made h", "held c", "pending e", "pending f", "show"), before)
        putting = begun()
        putting.say("make h insert 1 1")
        self.raised(putting, "rest e", InvalidStep, "pending")
        self.raised(putting, "copy e in r 1", InvalidStep, "box")
        self.raised(putting, "net table k k / key k", InvalidTable, "columns")
        self.raised(putting, "plan table k / key k", InvalidNet, "homes", None)
        self.said(putting, ("made h", "1,1"))

    def test_too_many(self):
        huge = begun(NET.with_filter("f", Filter.within("k", Ranges.of(*range(0, 1000, 2)))))
        for line in ("judge", "judge falls", "fewest", "failings", "mend put 1", "plan " + huge.say("show")):
            self.raised(huge, line, TooMany, 2002)
        self.raised(begun(), "plan " + huge.say("show"), TooMany, 4004)


class RefusedTest(Asking):
    """Promise 9: UnknownCommand ahead of InvalidText ahead of what the functions raise."""

    def test_no_commands(self):
        for shell in (Shell(), begun()):
            for line in any_values() + ["", " ", "events", "Net x", "net", "NET " + LONG, " resting", "resting\n", "\nresting", "make\th", "help"]:
                self.unknown(shell, line)

    def test_without_a_run_there_is_only_net(self):
        shell = Shell()
        for word in COMMANDS[1:]:
            for line in (word, word + " h", word + " h 1", word + " put 1 2"):
                self.unknown(shell, line)
        self.raised(shell, "net x", InvalidText, 0, 0)
        self.unknown(shell, "net")

    def test_numbers_of_words(self):
        shell = begun()
        for word in ("show", "resting", "stuck", "settle", "fewest", "failings"):
            for more in (" ", " h", " h h"):
                self.unknown(shell, word + more)
        for word in ("undo", "held", "made", "wanted", "right", "pending"):
            for more in ("", " h h", " 1 ", "  1"):
                self.unknown(shell, word + more)
        for line in ("plan", "net", "mend", "mend put", "mend put 1 skip", "mend put 1 skip 2 wait", "judge falls falls", "judge  "):
            self.unknown(shell, line)

    def test_lines_as_in_events_have_any_number_of_words(self):
        shell = begun()
        for line, word in (("make", 1), ("make h", 2), ("make h insert", 3), ("make h insert x", 3), ("make h insert 1 ", 4), ("make H insert 1", 1),
                           ("make h put 1", 2),
                           ("make h insert 1 01", 4), ("deliver", 1), ("deliver e e", 2), ("deliver E", 1), ("fall e", 2), ("fall e 0", 2),
                           ("fall e 5001", 2), ("fall e 1 1", 3),
                           ("leave e", 2), ("leave e maybe", 2), ("sweep e always always", 3), ("copy e in k", 4), ("again 1", 1), ("rest", 1),
                           ("rest e e", 2),
                           ("make h insert 1\n1", 3), ("rest e\n", 1), ("leave e always\n", 2)):
            self.raised(shell, line, InvalidText, 0, word)

    def test_words_that_cannot_stand(self):
        shell = begun()
        for line, word in (("held H", 1), ("held ", 1), ("made 1", 1), ("wanted toolongname", 1), ("right c\n", 1), ("pending E", 1), ("undo -1", 1),
                           ("undo 01", 1), ("undo x", 1),
                           ("undo " + "1" * 31, 1), ("undo ", 1), ("judge Falls", 1), ("judge ", 1), ("judge fall", 1), ("mend puts 1", 1),
                           ("mend put -1", 2), ("mend put 1000001", 2),
                           ("mend put 01", 2), ("mend put 1 put 2", 3), ("mend put 1 skip 2 put x", 5), ("mend put 1 x 2", 3), ("mend put none", 2),
                           ("mend  put", 1)):
            self.raised(shell, line, InvalidText, 0, word)
        # A wrong word goes ahead of a name that is none.
        self.raised(shell, "make zz insert x", InvalidText, 0, 3)
        self.raised(shell, "fall zz 0", InvalidText, 0, 2)

    def test_net_and_plan_tell_the_line_and_the_word_of_their_own_text(self):
        for first in ("net ", "plan "):
            shell = begun()
            for text, line, word in (("x", 0, 0), ("", 0, 0), (" ", 0, 0), ("table", 0, 1), ("table k", 1, 0), ("table k / key", 1, 1),
                                     ("table k / key k /", 1, 2),
                                     ("table k / key k / ", 2, 0), ("table k /key k", 0, 2), ("table k / key k / site", 2, 1),
                                     ("table k / key k / site c put k : always", 2, 4),
                                     ("table k r / key k / home h put k r always", 2, 6), (LONG.replace("in r 1", "in r 01"), 5, 6),
                                     (LONG + " /", 5, 7), (LONG + " / ", 6, 0),
                                     ("table k\nkey k", 0, 1), ("table k / key k\n", 1, 1), ("table k / / key k", 1, 0), ("/ table k", 0, 0),
                                     (LONG + "\n", 5, 6)):
                self.raised(shell, first + text, InvalidText, line, word)
            self.said(shell, ("show", LONG))


if __name__ == "__main__":
    unittest.main()
