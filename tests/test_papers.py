"""Points 27 and 28: papers."""

import random
import unittest

from chances import chance_net
from examples import ALL, HIGH, LOW, NET, NEVER, ONES, RING, TABLE, chain
from speaklast.errors import TooMany
from speaklast.feeds import Feed
from speaklast.filters import Filter
from speaklast.nets import Net
from speaklast.papers import shows_right
from speaklast.ranges import Ranges
from speaklast.rules import failings
from speaklast.sites import Site
from values import any_values
from words import Words

RIGHT = NET.with_filter("f", ALL)
HUGE = NET.with_filter("f", Filter.within("k", Ranges.of(*range(0, 1000, 2))))
# A chain of three sites behind the home, one of them fed twice, all with the same rows.
LONG = chain(4, back=((0, 2), (1, 3)))


def paper(net):
    return ("right", tuple(row for home in net.homes for row in Words(net, home).paper_rows()))


def bend(thing, place, new):
    """The tuple with a new part at the place, a tuple of indexes."""
    if not place:
        return new
    at = place[0]
    return thing[:at] + (bend(thing[at], place[1:], new),) + thing[at + 1:]


class PapersTest(unittest.TestCase):
    """Promise 6."""

    def accepted(self, net, thing, falls=False):
        self.assertIs(shows_right(net, thing, falls=falls), True)

    def refused(self, net, thing, falls=False):
        self.assertIs(shows_right(net, thing, falls=falls), False)

    def test_papers_that_hold(self):
        for net in (RIGHT, LONG, NET.with_policy("c", "shares"), chain(8), chain(1)):
            self.accepted(net, paper(net))
            self.accepted(net, paper(net), falls=True)
        self.assertIs(shows_right(net=chain(1), thing=("right", ())), True)

    def test_nets_in_which_something_fails(self):
        for net in (NET, RING, NET.with_policy("c", "wait"), RIGHT.with_policy("c", "wait")):
            self.refused(net, paper(net))
        waiting = NET.without("f").with_policy("c", "wait")
        self.accepted(waiting, paper(waiting))
        self.refused(waiting, paper(waiting), falls=True)
        self.assertIs(shows_right(waiting, paper(waiting)), True)

    def test_two_homes_and_an_empty_region(self):
        net = Net(TABLE, Site("b", "k", "r", home=HIGH), Site("c", "k", "r", policy="wait"), Site("a", "k", "r", home=LOW),
                  Site("d", "k", "r", home=NEVER), Feed("e", "a", "c"), Feed("f", "b", "c", own=True))
        wanted = paper(net)
        self.assertEqual([row[:2] for row in wanted[1]], [("b", "e"), ("b", "f"), ("a", "e"), ("a", "f"), ("d", "e"), ("d", "f")])
        self.accepted(net, wanted)
        rows = wanted[1]
        self.refused(net, ("right", rows[2:4] + rows[:2] + rows[4:]))
        self.refused(net, ("right", rows[:4]))
        self.refused(net, bend(wanted, (1, 4, 2), rows[2][2]))

    def test_any_value(self):
        for value in any_values() + [("right",), ("wrong", paper(RIGHT)[1]), ("right", ()), ("right", paper(RIGHT)[1], 1),
                                     ["right", paper(RIGHT)[1]], ("right", list(paper(RIGHT)[1])), (("right",), paper(RIGHT)[1])]:
            self.refused(RIGHT, value)
            self.refused(RIGHT, ("right", value))
            for place in ((0,), (1,), (1, 0), (1, 0, 0), (1, 0, 1), (1, 0, 2), (1, 0, 2, 1), (1, 0, 2, 1, 0), (1, 0, 2, 1, 0, 1)):
                if not self.is_a_part(value, place):
                    self.refused(RIGHT, bend(paper(RIGHT), place, value))

    def is_a_part(self, value, place):
        return place == (1, 0, 2, 1, 0, 1) and type(value) is int and value == 1

    def test_numbers(self):
        """Numbers of a feed out of the home are any from 1 on; others go up."""
        place = (1, 0, 2, 1, 1)
        for value in any_values() + [0, -1, 2, 10 ** 50]:
            if type(value) is int and value >= 1:
                self.accepted(RIGHT, bend(paper(RIGHT), place, value))
            else:
                self.refused(RIGHT, bend(paper(RIGHT), place, value))

    def test_numbers_that_do_not_go_up(self):
        wanted = paper(LONG)
        rows = {row[1]: at for at, row in enumerate(wanted[1])}
        def numbered(**numbers):
            changed = wanted
            for feed, number in numbers.items():
                cells = tuple((cell, number) for cell, _ in wanted[1][rows[feed]][2])
                changed = bend(changed, (1, rows[feed], 2), cells)
            return changed
        # fa: sa to sb, fb: sb to sc, fc: sc to sd, ga: sa to sc, gb: sb to sd.
        self.accepted(LONG, numbered(fa=1, fb=2, fc=2, ga=1, gb=2))
        self.accepted(LONG, numbered(fa=9, fb=10, fc=4, ga=3, gb=77))
        self.accepted(LONG, numbered(fa=9, fb=10, fc=11, ga=30, gb=10))
        for wrong in (numbered(fa=2, fb=2), numbered(fa=3, fb=2, gb=4), numbered(fa=9, fb=10, ga=4, fc=4, gb=10),
                      numbered(fa=5, fb=6, gb=5), numbered(fa=5, fb=6, gb=4), numbered(fa=1, fb=2, ga=3, fc=2)):
            self.refused(LONG, wrong)
        self.refused(LONG, bend(numbered(), (1, rows["gb"], 2, 1, 1), 1))

    def test_numbers_that_hold_one_another(self):
        """Two feeds of a loop cannot show a cell for one another."""
        net = Net(TABLE, Site("h", "k", "r", home=ALL), Site("a", "k", "r"), Site("b", "k", "r"), Feed("e", "h", "a", where=NEVER),
                  Feed("p", "a", "b"), Feed("q", "b", "a"))
        self.accepted(net, paper(net))
        cells = tuple(((0, at), 1) for at in range(2))
        for one, other in ((1, 2), (2, 1), (1, 1)):
            rows = tuple(("h", feed, tuple((cell, number) for cell, _ in cells)) for feed, number in (("p", one), ("q", other)))
            self.refused(net, ("right", (("h", "e", ()), *rows)))

    def test_cells_that_are_missing_or_too_many(self):
        net = RIGHT.with_filter("e", ONES).with_filter("f", ONES)
        wanted = paper(net)
        self.assertEqual([row[2] for row in wanted[1]], [(((0, 1), 1),), (((0, 1), 1),)])
        self.accepted(net, wanted)
        for entries in ((), (((0, 0), 1), ((0, 1), 1)), (((0, 1), 1), ((0, 1), 1)), (((0, 1), 1), ((0, 2), 1)), (((0, 4), 1),),
                        (((0, 1), 1), ((0, 0), 1)), (((0, 2), 1),), (((False, 1), 1),), (((0, 1), 1, 1),), (((0, 1),),), ([(0, 1), 1],),
                        [((0, 1), 1)], (((0, True), 1),), (([0, 1], 1),)):
            self.refused(net, bend(wanted, (1, 0, 2), entries))
            self.refused(net, bend(wanted, (1, 1, 2), entries))
        whole = paper(RIGHT)
        for at in range(2):
            entries = whole[1][0][2]
            self.refused(RIGHT, bend(whole, (1, 0, 2), entries[:at] + entries[at + 1:]))
            self.refused(RIGHT, bend(whole, (1, 0, 2), entries[:at] + entries[at:at + 1] + entries[at:]))
        self.refused(RIGHT, bend(whole, (1, 0, 2), whole[1][0][2][::-1]))

    def test_names_and_rows(self):
        wanted = paper(RIGHT)
        for place, new in (((0,), "wrong"), ((1, 0, 0), "c"), ((1, 0, 1), "f"), ((1, 1), wanted[1][0]), ((1, 0), wanted[1][0][:2]),
                           ((1, 0), wanted[1][0] + ((),)), ((1, 0), list(wanted[1][0])), ((1,), wanted[1] + wanted[1][:1]),
                           ((1,), wanted[1][::-1])):
            self.refused(RIGHT, bend(wanted, place, new))

    def test_too_many_for_any_thing(self):
        for value in any_values() + [("right", ())]:
            with self.assertRaises(TooMany) as caught:
                shows_right(HUGE, value, falls=True)
            self.assertEqual(caught.exception.count, 2002)

    def test_many_cells(self):
        net = chain(8).with_filter("fa", Filter.within("k", Ranges.of(*range(0, 748, 2))) | ALL)
        wanted = paper(net)
        self.assertEqual([len(row[2]) for row in wanted[1]], [1498] * 7)
        self.accepted(net, wanted, falls=True)
        self.refused(net, bend(wanted, (1, 6, 2, 5, 1), 6))

    def test_by_chance(self):
        chance, seen = random.Random(25), []
        for _ in range(200):
            net, falls = chance_net(chance), chance.random() < 0.5
            wanted, right = paper(net), not list(failings(net, falls=falls))
            self.assertIs(shows_right(net, wanted, falls=falls), right)
            seen.append(right)
            at = chance.randrange(len(wanted[1]))
            entries = wanted[1][at][2]
            if entries:
                place = chance.randrange(len(entries))
                self.refused(net, bend(wanted, (1, at, 2), entries[:place] + entries[place + 1:]), falls)
                cell, number = entries[place]
                if number > 1:
                    self.refused(net, bend(wanted, (1, at, 2, place, 1), 1), falls)
                others = [cell for cell in Words(net, net.homes[0]).all_cells if cell not in [entry[0] for entry in entries]]
                if others:
                    more = tuple(sorted(entries + ((chance.choice(others), 9),)))
                    self.refused(net, bend(wanted, (1, at, 2), more), falls)
        self.assertGreater(min(seen.count(True), seen.count(False)), 30)


if __name__ == "__main__":
    unittest.main()
