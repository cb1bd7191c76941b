"""The whole program: from a text to a net, judged, mended, run, led over to another net, and shown as a text again."""

import random
import unittest

from examples import NET, RING
from speaklast.errors import InvalidFall
from speaklast.judging import judged
from speaklast.mends import mend
from speaklast.papers import shows_right
from speaklast.plans import do_steps, plan, shows_plan
from speaklast.reader import read_events, read_net
from speaklast.rules import failings
from speaklast.runs import Run, play
from speaklast.shell import Shell
from speaklast.sites import Site
from speaklast.texts import show_events, show_net
from speaklast.ways import keeps_whole, shows_mixed, ways
from speaklast.wrongs import shows_wrong
from test_plans import chance_plan_net, changed_filters

TEXT = """table k r
key k
home h put k r : always
site a put k r
site c wait k r
feed e h a always
feed f h a in k ..9
feed g a c always"""
OTHER = TEXT.replace("feed e h a always", "feed e h a in k 10..")


class WholeTest(unittest.TestCase):
    """Promise 10 of stage 5."""

    def test_one_net(self):
        net = read_net(TEXT)
        self.assertEqual(show_net(net), TEXT)
        self.assertEqual([judged(net)[0], judged(net, falls=True)[0]], ["right", "wrong"])
        mended = mend(net, {"skip": 2, "put": 3, "stamped": 1}, falls=True)
        self.assertEqual((mended[0], mended[2]), ("mend", 2))
        net = mended[1]
        self.assertIs(shows_right(net, judged(net, falls=True), falls=True), True)
        other = read_net(show_net(net).replace("feed e h a always", "feed e h a in k 10.."))
        told = plan(net, other)
        self.assertEqual([step[:2] for step in told[1]], [("leave", "e"), ("rest", "e"), ("again", "f")])
        run = Run(net)
        for row in ((1, 1), (20, 2)):
            run.make("h", "insert", row)
        for step in do_steps(run, told[1]):
            run.make("h", "update", (1, len(run)))
            run.make("h", "update", (20, len(run)))
        list(run.settle())
        self.assertEqual((run.held("c"), [run.right(site) for site in net.sites]), (run.made("h"), [True] * 3))
        again = Run(net)
        play(again, read_events(show_events(tuple(run.events()))))
        self.assertEqual(again, run)
        self.assertEqual(read_net(show_net(again.net)), run.net)
        self.assertEqual(plan(run.net, other), ("plan", []))

    def test_a_wrong_run_is_played_in_a_shell(self):
        for net in (NET, NET.with_policy("c", "skip"), NET.with_policy("c", "wait"), read_net(TEXT.replace("f h a in k", "f h c in k"))):
            told = judged(net)
            shell = Shell()
            shell.say("net " + show_net(net).replace("\n", " / "))
            self.assertEqual(shell.say("judge"), f"wrong {len(told[1])}")
            shell.say_all(*show_events(told[1]).split("\n"))
            site = told[2][1] if told[2][0] == "site" else None
            self.assertEqual(shell.say("right " + site) if site else shell.say("stuck").split(" ")[0], "no" if site else told[2][1])

    def test_a_round_goes_on_in_a_shell(self):
        told = judged(RING)
        shell = Shell()
        shell.say("net " + show_net(RING).replace("\n", " / "))
        shell.say_all(*show_events(told[1]).split("\n"))
        before = shell.say_all("pending p", "pending q", "held h", "held a")
        for _ in range(5):
            shell.say_all(*["deliver " + feed for feed in told[2][1]])
            self.assertEqual(shell.say_all("pending p", "pending q", "held h", "held a"), before)
        self.assertEqual(shell.say("settle"), "5000")

    def test_a_plan_in_a_shell(self):
        shell = Shell()
        text, other = TEXT.replace("c wait", "c put"), OTHER.replace("c wait", "c put")
        self.assertEqual(shell.say_all("net " + text.replace("\n", " / "), "make h insert 1 1", "make h insert 20 1", "settle"),
                         ["ok", "stamp 1", "stamp 2", "5"])
        steps = shell.say("plan " + other.replace("\n", " / ")).split(" / ")
        self.assertEqual([step.split(" ")[0] for step in steps], ["leave", "rest", "again"])
        shell.say_all("make h update 1 2", "deliver e", *steps, "make h update 20 2")
        self.assertEqual(shell.say_all("settle", "held c", "right a", "right c", "pending e"), ["5", "1,2 20,2", "yes", "yes", "0"])

    def test_by_chance(self):
        """Each net goes through all of the program."""
        chance, seen = random.Random(95), {}
        while min([seen.get(kind, 0) for kind in ("wrong", "mend", "plan", "mixed")]) < 12:
            net = read_net(show_net(chance_plan_net(chance)))
            told = judged(net)
            if told[0] == "wrong":
                seen["wrong"] = seen.get("wrong", 0) + 1
                self.assertIs(shows_wrong(net, (told[0], read_events(show_events(told[1])), told[2])), True)
                mended = mend(net, {word: chance.randint(0, 3) for word in chance.sample(Site.POLICIES, 4)})
                if mended[0] == "none":
                    self.assertEqual(mended[1], list(failings(net))[0])
                    continue
                seen["mend"] = seen.get("mend", 0) + 1
                net = mended[1]
            self.assertIs(shows_right(net, judged(net)), True)
            self.keep_whole(net, seen)
            self.lead_over(chance, net, seen)

    def keep_whole(self, net, seen):
        for home in net.homes:
            for site in net.sites:
                told = keeps_whole(net, home, site)
                seen[told[0]] = seen.get(told[0], 0) + 1
                if told[0] == "mixed":
                    self.assertIs(shows_mixed(net, home, site, ("mixed", read_events(show_events(told[1])))), True)
                    self.assertGreater(len(ways(net, home, site)), 1)

    def lead_over(self, chance, net, seen):
        other = changed_filters(chance, net)
        told = plan(net, other)
        if told[0] == "none" or list(failings(net, falls=True)):
            return
        seen["plan"] = seen.get("plan", 0) + 1
        steps = list(read_events(show_events(told[1])))
        self.assertIs(shows_plan(net, other, ("plan", steps)), True)
        run = Run(net)
        for at, step in enumerate([None] + steps):
            for home in net.homes:
                row = tuple(4 * (home == "g") + at % 3 if column in net.table.key else at for column in net.table.columns)
                try:
                    run.make(home, "insert", row)
                except ValueError:
                    pass
            if step is not None:
                for _ in do_steps(run, [step]):
                    pass
            try:
                run.fall(chance.choice(net.feeds), back=1)
            except InvalidFall:
                pass
        list(run.settle())
        self.assertEqual([run.right(site) for site in net.sites], [True] * len(net))
        again = Run(net)
        play(again, read_events(show_events(tuple(run.events()))))
        self.assertEqual(again, run)


if __name__ == "__main__":
    unittest.main()
