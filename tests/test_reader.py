"""Points 36 and 37: texts of sets, filters, tables, nets and events."""

import random
import unittest

from chances import chance_net, chance_table
from examples import ALL, HIGH, LOW, NET, NEVER, ONES, PAIRED, RING, SOLE, TABLE, WIDE, chain
from speaklast.errors import InvalidNet, InvalidSite, InvalidTable, InvalidText, TooMany
from speaklast.feeds import Feed
from speaklast.filters import Filter
from speaklast.nets import Net
from speaklast.ranges import Ranges
from speaklast.reader import read_events, read_filter, read_net, read_ranges, read_table
from speaklast.runs import Run
from speaklast.sites import Site
from speaklast.tables import Table
from speaklast.texts import show_events, show_filter, show_net, show_ranges, show_table
from values import any_values

LAST = 10 ** 12 - 1
NET_TEXT = "table k r\nkey k\nhome h put k r : always\nsite c put k r\nfeed e h c always\nfeed f h c in r 1"
READERS = (read_ranges, read_filter, read_table, read_net, read_events)


class Asking(unittest.TestCase):
    def refused(self, read, text, line, word):
        with self.assertRaises(InvalidText, msg=text) as caught:
            read(text)
        self.assertEqual((caught.exception.line, caught.exception.word), (line, word), text)

    def agree(self, show, read, thing, text):
        self.assertEqual(show(thing), text)
        self.assertEqual(read(text), thing)

    def raised(self, read, text, error, *fields):
        with self.assertRaises(error, msg=text) as caught:
            read(text)
        self.assertIs(type(caught.exception), error)
        self.assertEqual(tuple(vars(caught.exception).values()), fields)


class NoStringsTest(Asking):
    def test_any_values(self):
        for read in READERS:
            for thing in any_values():
                if not isinstance(thing, str):
                    self.refused(read, thing, None, None)


class RangesTest(Asking):
    """Promises 4 and 5."""

    def test_both_ways(self):
        for ranges, text in ((Ranges.of(3), "3"), (Ranges.between(1, 5), "1..5"), (Ranges.between(None, 0), "..0"), (Ranges.between(7, None), "7.."),
                             (Ranges.full(), ".."), (Ranges.empty(), "-"), (Ranges.of(-1), "-1"), (Ranges.between(-5, -3), "-5..-3"),
                             (Ranges.of(0, 2, 4), "0,2,4"), (Ranges.between(None, -2) | Ranges.of(0) | Ranges.between(9, None), "..-2,0,9.."),
                             (Ranges.between(-LAST, LAST), f"-{LAST}..{LAST}"), (Ranges.between(-1, 0), "-1..0"),
                             (Ranges.full() - Ranges.of(0), "..-1,1..")):
            self.agree(show_ranges, read_ranges, ranges, text)
        self.assertEqual(read_ranges(text="3").parts, ((3, 3),))
        self.assertEqual(show_ranges(ranges=Ranges.of(1, 2, 4)), "1..2,4")

    def test_what_is_not_written_so(self):
        for text in ("", "--", "+1", "01", "-0", "-01", "00", "3..3", "5..1", "0..-1", "1,2", "1..2,3", "1..3,2", "3,1", "1,1", "..1,..2", "1..,2",
                     "..,3",
                     "1..,..0", ",", "1,", ",1", "1,,3", "1,-", "-,1", "...", "1...2", "1..2..3", "1.2", ".", "1_0", "0x1", "a", "none", "..0,1",
                     "..-0",
                     "1234567890123", "-1234567890123", "1..1234567890123", "-..5", "5..-", "1e3", "\t1", "1\t"):
            self.refused(read_ranges, text, 0, 0)

    def test_words_and_lines_too_many(self):
        self.refused(read_ranges, "1 3", 0, 1)
        self.refused(read_ranges, "1 ", 0, 1)
        self.refused(read_ranges, " 1", 0, 0)
        self.refused(read_ranges, "1\n", 1, 0)
        self.refused(read_ranges, "1\n2\n3", 1, 0)
        self.refused(read_ranges, "1 2\n", 0, 1)
        self.refused(read_ranges, "\n1", 0, 0)

    def test_by_chance(self):
        chance = random.Random(81)
        for _ in range(300):
            ranges = Ranges.of(*[chance.randint(-30, 30) for _ in range(chance.randint(0, 9))])
            if chance.random() < 0.3:
                ranges = ranges | Ranges.between(None, chance.randint(-30, 30))
            if chance.random() < 0.3:
                ranges = Ranges.full() - ranges
            self.assertEqual(read_ranges(show_ranges(ranges)), ranges)

    def test_many_parts(self):
        self.agree(show_ranges, read_ranges, Ranges.of(*range(0, 2000, 2)), ",".join(str(number) for number in range(0, 2000, 2)))


class FiltersTest(Asking):
    """Promises 4 and 5."""

    def test_both_ways(self):
        for where, text in ((ALL, "always"), (NEVER, "never"), (ONES, "in r 1"), (Filter.missing("k"), "missing k"), (~ALL, "~ always"),
                            (ONES & ~Filter.missing("r"), "& in r 1 ~ missing r"), (ALL | NEVER & ONES, "| always & never in r 1"),
                            ((ALL | NEVER) & ONES, "& | always never in r 1"), (Filter.within("k", Ranges.empty()), "in k -"), (LOW, "in k ..9"),
                            (~~ALL, "~ ~ always")):
            self.agree(show_filter, read_filter, where, text)
        self.assertEqual(show_filter(where=read_filter(text="in k ..")), "in k ..")

    def test_columns_called_like_words_of_the_texts(self):
        for name in ("in", "always", "never", "missing", "none", "site", "home", "table", "key", "once"):
            self.agree(show_filter, read_filter, Filter.within(name, Ranges.of(1)) & Filter.missing(name), f"& in {name} 1 missing {name}")

    def test_words_that_cannot_stand(self):
        for text, word in (("", 0), ("Always", 0), ("alwaysx", 0), ("in", 1), ("in k", 2), ("missing", 1), ("&", 1), ("& always", 2), ("~", 1),
                           ("| ~ never", 3),
                           ("in K 1", 1), ("in 1 k", 1), ("in k k", 2), ("in k 01", 2), ("missing toolongna", 1), ("missing k k", 2),
                           ("always always", 1),
                           ("& always always always", 3), ("& & always", 3), ("~ always never", 2), ("always ", 1), ("  always", 0), ("in  k 1", 1),
                           ("in k 1 ", 3), ("and always always", 0), ("& always maybe", 2), ("in k 3..3", 2), ("in k 1,2", 2), ("missing", 1),
                           ("~~ always", 0)):
            self.refused(read_filter, text, 0, word)
        self.refused(read_filter, "always\n", 1, 0)
        self.refused(read_filter, "& always\nalways", 0, 2)
        self.refused(read_filter, "always\nnever", 1, 0)
        self.refused(read_filter, "in k\n1", 0, 2)

    def test_one_hundred_signs_within_one_another(self):
        deep = ALL
        for at in range(100):
            deep = ~deep if at % 2 else deep & NEVER
        text = show_filter(deep)
        self.agree(show_filter, read_filter, deep, text)
        self.refused(read_filter, "~ " + text, 0, 100)
        self.refused(read_filter, "~ " * 101 + "always", 0, 100)
        self.refused(read_filter, "& always " * 101 + "always", 0, 200)
        self.refused(read_filter, "~ " * 101, 0, 100)
        self.refused(read_filter, "~ " * 99 + "~", 0, 100)
        # Side by side there may be more of them.
        many = "& " * 99 + " ".join(["~ never"] * 100)
        self.assertEqual(show_filter(read_filter(many)), many)
        self.refused(read_filter, "& " * 99 + " ".join(["~ never"] * 99 + ["~ ~ never"]).replace("~ never", "~ ~ never", 1), 0, 100)

    def test_four_hundred_words(self):
        def balanced(leaves):
            return leaves[0] if len(leaves) == 1 else "& " + balanced(leaves[:len(leaves) // 2]) + " " + balanced(leaves[len(leaves) // 2:])
        exact = balanced(["always"] * 198 + ["missing k", "~ never"])
        self.assertEqual(len(exact.split(" ")), 401)
        self.refused(read_filter, exact, 0, 400)
        exact = balanced(["always"] * 199 + ["~ never"])
        self.assertEqual(len(exact.split(" ")), 400)
        self.assertEqual(show_filter(read_filter(exact)), exact)
        self.refused(read_filter, exact + " always", 0, 400)
        longer = balanced(["always"] * 199 + ["in k 1"])
        self.assertEqual(len(longer.split(" ")), 401)
        self.refused(read_filter, longer, 0, 400)
        self.refused(read_filter, balanced(["always"] * 198 + ["in k 1"] * 2), 0, 400)
        # In a line of a net they are counted from the first word of the filter.
        text = NET_TEXT.replace("in r 1", exact)
        self.assertEqual(show_net(read_net(text)), text)
        self.refused(read_net, NET_TEXT.replace("in r 1", longer), 5, 404)
        self.refused(read_events, "leave e " + longer, 0, 402)

    def test_by_chance(self):
        chance = random.Random(82)
        for _ in range(100):
            net = chance_net(chance)
            for feed in net.feeds:
                where = net.feed(feed).where
                self.assertEqual(read_filter(show_filter(where)), where)

    def test_first_word_that_cannot_stand_by_chance(self):
        """A text of which one word is bent is refused there, if the bent word can stand nowhere."""
        chance = random.Random(83)
        for _ in range(200):
            net = chance_net(chance)
            words = show_filter(net.feed(net.feeds[0]).where).split(" ")
            at = chance.randrange(len(words))
            self.refused(read_filter, " ".join(words[:at] + [chance.choice(("", "?", "A", "-0", "1..1"))] + words[at + 1:]), 0, at)
            self.refused(read_filter, " ".join(words[:at]), 0, at) if at else None
            self.refused(read_filter, " ".join(words + ["always"]), 0, len(words))


class TablesTest(Asking):
    """Promise 6."""

    def test_both_ways(self):
        for table, text in ((TABLE, "table k r\nkey k"), (SOLE.table, "table k u\nkey k\nunique u"), (PAIRED, "table a k r l\nkey k l\nfixed a"),
                            (Table("k", "r", key=("k",), reuse=False), "table k r\nkey k\nonce"),
                            (Table("a", "b", "c", "d", key=("b",), fixed=("d", "a"), unique=("a", "c"), reuse=False),
                             "table a b c d\nkey b\nfixed a d\nunique a c\nonce")):
            self.agree(show_table, read_table, table, text)
            self.assertEqual(show_table(table=read_table(text=text)), text)

    def test_columns_are_read_in_any_order(self):
        self.assertEqual(read_table("table a k r l\nkey l k\nfixed r a\nunique r a"),
                         Table("a", "k", "r", "l", key=("k", "l"), fixed=("a", "r"), unique=("a", "r")))

    def test_columns_called_like_words_of_the_texts(self):
        table = Table("table", "key", "fixed", "once", key=("key", "table"), fixed=("once", "fixed"))
        self.agree(show_table, read_table, table, "table table key fixed once\nkey table key\nfixed fixed once")

    def test_words_that_cannot_stand(self):
        for text, line, word in (("", 0, 0), ("table", 0, 1), ("tables k", 0, 0), ("key k", 0, 0), ("table k", 1, 0), ("table k\n", 1, 0),
                                 ("table k\nkey", 1, 1),
                                 ("table k\nkeys k", 1, 0), ("table k\nfixed k\nkey k", 1, 0), ("table k K\nkey k", 0, 2), ("table k\nkey 1", 1, 1),
                                 ("table k\nkey k\n", 2, 0), ("table k\nkey k\nfixed", 2, 1), ("table k r\nkey k\nunique", 2, 1),
                                 ("table k r\nkey k\nonce r", 2, 1),
                                 ("table k r\nkey k\nonce\nonce", 3, 0), ("table k r\nkey k\nunique r\nfixed r", 3, 0),
                                 ("table k r\nkey k\nonce\nfixed r", 3, 0),
                                 ("table k r\nkey k\nfixed r\nfixed r", 3, 0), ("table k r\nkey k\nsite c put k", 2, 0), ("table k r \nkey k", 0, 3),
                                 ("table  k\nkey k", 0, 1), (" table k\nkey k", 0, 0), ("table k\n\nkey k", 1, 0), ("table k\nkey k \nx", 1, 2),
                                 ("table abcdefghi\nkey k", 0, 1),
                                 ("table k r\nkey k\nfixed r :", 2, 2), ("table k r\nkey k\nfixed Fixed", 2, 1), ("table k?\nkey", 0, 1)):
            self.refused(read_table, text, line, word)

    def test_errors_of_tables_behind_a_right_form(self):
        for text, reason in (("table k k\nkey k", "columns"), ("table a b c d e\nkey a", "columns"), ("table k r\nkey x", "key"),
                             ("table k r s\nkey k r s", "key"),
                             ("table k r\nkey k k", "key"), ("table k r\nkey k\nfixed k", "fixed"), ("table k r\nkey k\nfixed r r", "fixed"),
                             ("table k r\nkey k\nunique x", "unique"), ("table k r\nkey k\nfixed x\nunique x", "fixed"),
                             ("table k k\nkey x\nunique x", "columns")):
            self.raised(read_table, text, InvalidTable, reason)
        self.refused(read_table, "table k k\nkey k\nfixed", 2, 1)

    def test_by_chance(self):
        chance = random.Random(84)
        for _ in range(100):
            table = chance_table(chance)
            self.assertEqual(read_table(show_table(table)), table)


class NetsTest(Asking):
    """Promise 6."""

    def test_examples_of_the_document(self):
        self.agree(show_net, read_net, NET, NET_TEXT)
        self.assertEqual(read_net(show_net(NET)) == NET, True)
        self.assertEqual(show_filter(ONES & ~Filter.missing("r")), "& in r 1 ~ missing r")
        self.refused(read_net, "table k r\nkey k\nhome h put k r always", 2, 6)

    def test_both_ways(self):
        for net in (NET, RING, SOLE, WIDE, chain(8, back=((7, 0),)), chain(1)):
            self.assertEqual(read_net(show_net(net)), net)
            self.assertEqual(show_net(net=read_net(text=show_net(net))), show_net(net))
        self.assertIn("\nown lb high mid always\n", show_net(WIDE))
        self.assertIn("\nhome high shares k l a r : in k 10..\n", show_net(WIDE))

    def test_names_called_like_words_of_the_texts(self):
        table = Table("in", "always", key=("in",))
        net = Net(table, Site("site", "always", "in", home=Filter.within("in", Ranges.of(1))), Site("feed", "in", policy="wait"),
                  Feed("own", "site", "feed", own=True),
                  Feed("home", "site", "feed", where=Filter.missing("always")))
        self.agree(show_net, read_net, net, "table in always\nkey in\nhome site put always in : in in 1\nsite feed wait in\nown own site feed always\n"
                                            "feed home site feed missing always")

    def test_sites_and_feeds_may_be_absent(self):
        self.raised(read_net, "table k r\nkey k", InvalidNet, "homes", None)
        self.raised(read_net, "table k r\nkey k\nsite c put k", InvalidNet, "homes", None)
        self.raised(read_net, "table k r\nkey k\nfeed e a b always", InvalidNet, "ends", "e")
        self.assertEqual(read_net("table k\nkey k\nhome h put k : always"), Net(Table("k", key=("k",)), Site("h", "k", home=ALL)))

    def line(self, line, word, told=None):
        """A line that stands in place of the site c is refused with this word."""
        lines = NET_TEXT.split("\n")
        self.refused(read_net, "\n".join(lines[:3] + [line] + (told or lines[4:])), 3, word)

    def test_lines_of_sites(self):
        for line, word in (("", 0), ("site", 1), ("site c", 2), ("site c put", 3), ("site c Put k", 2), ("site c puts k", 2), ("site c put K", 3),
                           ("site C put k", 1),
                           ("site c put k :", 4), ("site c put k : always", 4), ("site c put k ", 4), ("site  c put k", 1), ("sites c put k", 0),
                           ("site c put k r 1", 5),
                           ("site put c", 2), ("table k r", 0), ("key k", 0), ("once", 0), ("fixed r", 0), ("Site c put k", 0),
                           ("site abcdefghi put k", 1)):
            self.line(line, word)

    def test_lines_of_homes(self):
        for line, word in (("home", 1), ("home c", 2), ("home c put", 3), ("home c put k r", 5), ("home c put k r :", 6), ("home c put : always", 3),
                           ("home c put k r : maybe", 6), ("home c put k r : always always", 7), ("home c put k r always", 6),
                           ("home c put k R : always", 4),
                           ("home c put k r :always", 5), ("home c put k r : in k", 8), ("home c put k r : in k 01", 8),
                           ("home c put k r : & always", 8),
                           ("home c put k r : always ", 7), ("home c put k r  : always", 5), ("home c no k r : always", 2)):
            self.line(line, word)

    def test_lines_of_feeds(self):
        for line, word in (("feed", 1), ("feed g", 2), ("feed g h", 3), ("feed g h c", 4), ("feed g h c maybe", 4), ("feed g h c always never", 5),
                           ("own g h c in", 5),
                           ("own g h", 3), ("own G h c always", 1), ("feed g H c always", 2), ("feed g h 1 always", 3), ("feed g h c : always", 4),
                           ("owns g h c always", 0)):
            self.line(line, word)

    def test_lines_that_do_not_stand_where_they_may(self):
        lines = NET_TEXT.split("\n")
        for at, line in ((6, "site d put k"), (6, "home d put k r : never"), (6, "once"), (6, "table k r"), (6, "make h insert 1 1"), (6, ""),
                         (5, "site d put k"), (4, "unique r"),
                         (3, "once"), (3, "fixed r"), (1, "once"), (0, "key k")):
            self.refused(read_net, "\n".join(lines[:at] + [line] + lines[at:]), at, 0)
        self.refused(read_net, "", 0, 0)
        self.refused(read_net, "table k r", 1, 0)
        self.refused(read_net, NET_TEXT + "\n", 6, 0)
        # The first line that is not written so is told, whatever comes behind it.
        self.refused(read_net, "table k r\nkey k\nsite C put k\nfeed", 2, 1)

    def test_what_table_site_feed_and_net_raise_in_that_order(self):
        head = "table k r\nkey k\n"
        self.raised(read_net, "table k r\nkey x\nsite c put k k\nfeed e a b always", InvalidTable, "key")
        self.raised(read_net, head + "site c put k k\nfeed e a b always", InvalidSite, "columns")
        self.raised(read_net, head + "site c put k\nsite c put k\nhome h put k r : always", InvalidNet, "name", "c")
        self.raised(read_net, head + "home h put k r : always\nsite c put k x", InvalidNet, "columns", "c")
        self.raised(read_net, head + "home h put k r : always\nfeed e h h always", InvalidNet, "ends", "e")
        self.raised(read_net, head + "home h put k r : always\nsite c put k\nfeed e h c in x 1", InvalidNet, "sent", "e")
        self.raised(read_net, head + "home h put k r : in r 1", InvalidNet, "homes", "h")
        self.raised(read_net, head + "home h put k r : always\nsite c put k\nown e c h always", InvalidNet, "sent", "e")
        self.raised(read_net, head + "home h put k r : always\nsite c stamped k\nfeed e h c always", InvalidNet, "stamps", "e")
        self.raised(read_net, head + "\n".join(f"site s{letter} put k" for letter in "abcdefghi"), TooMany, 8)
        many = "\n".join(f"feed s{letter} h c always" for letter in "abcdefghijklmno")
        self.raised(read_net, head + "home h put k r : always\nsite c put k\n" + many, TooMany, 14)
        self.refused(read_net, head + "site c put k k\nfeed e a b", 3, 4)

    def test_by_chance(self):
        chance = random.Random(85)
        for _ in range(150):
            net = chance_net(chance)
            self.assertEqual(read_net(show_net(net)), net)

    def test_bent_words_by_chance(self):
        chance = random.Random(86)
        for _ in range(150):
            lines = [line.split(" ") for line in show_net(chance_net(chance)).split("\n")]
            at = chance.randrange(len(lines))
            word = chance.randrange(len(lines[at]))
            lines[at][word] = chance.choice(("", "?", "ABC", "1..1", "-0"))
            self.refused(read_net, "\n".join(" ".join(line) for line in lines), at, word)


class EventsTest(Asking):
    """Promise 7."""

    def test_example_of_the_document(self):
        events = (("make", "h", "insert", (7, None)), ("deliver", "e"))
        self.assertEqual(show_events(events), "make h insert 7 none\ndeliver e")
        self.assertEqual(show_events(events=list(events)), "make h insert 7 none\ndeliver e")
        self.assertEqual(read_events(text="make h insert 7 none\ndeliver e"), events)

    def test_all_kinds(self):
        large = 10 ** 30 - 1
        for event, text in ((("make", "h", "insert", (1, -2, None, large)), f"make h insert 1 -2 none {large}"),
                            (("make", "h", "update", (-large,)), f"make h update -{large}"),
                            (("make", "h", "delete", (0, 5)), "make h delete 0 5"), (("make", "h", "delete", (None,)), "make h delete none"),
                            (("deliver", "e"), "deliver e"),
                            (("fall", "e", 1), "fall e 1"), (("fall", "e", 5000), "fall e 5000"), (("rest", "rest"), "rest rest"),
                            (("leave", "e", LOW), "leave e in k ..9"),
                            (("sweep", "e", ALL), "sweep e always"), (("copy", "copy", ~LOW & HIGH), "copy copy & ~ in k ..9 in k 10.."),
                            (("again", "e", ONES), "again e in r 1")):
            self.assertEqual(show_events((event,)), text)
            self.assertEqual(read_events(text), (event,))
            self.assertEqual(read_events(text + "\n" + text), (event, event))

    def test_no_events(self):
        for events in ((), []):
            self.assertEqual(show_events(events), "")
        self.assertEqual(read_events(""), ())
        self.refused(read_events, "\n", 0, 0)
        self.refused(read_events, " ", 0, 0)

    def test_words_that_cannot_stand(self):
        for text, word in (("make", 1), ("make h", 2), ("make h insert", 3), ("make h inserts 1", 2), ("make h insert x", 3),
                           ("make h insert 1 None", 4), ("make H insert 1", 1),
                           ("make h insert 01", 3), ("make h insert -0", 3), ("make h insert 1 " + "9" * 31, 4), ("make h insert 1 ", 4),
                           ("make h insert  1", 3), ("deliver", 1),
                           ("deliver e e", 2), ("deliver E", 1), ("fall e", 2), ("fall e 0", 2), ("fall e 5001", 2), ("fall e -1", 2),
                           ("fall e 01", 2), ("fall e 1 1", 3),
                           ("fall e x", 2), ("rest", 1), ("rest e always", 2), ("leave e", 2), ("leave e maybe", 2), ("leave e always always", 3),
                           ("copy e in k", 4),
                           ("sweep e ~", 3), ("again", 1), ("again e", 2), ("undo 1", 0), ("Make h insert 1", 0), ("", 0), ("wait e", 0),
                           ("make h delete 1.5", 3)):
            self.refused(read_events, "deliver e\n" + text + "\nnothing", 1, word)

    def test_lines(self):
        self.refused(read_events, "deliver e\n", 1, 0)
        self.refused(read_events, "deliver e\n\ndeliver e", 1, 0)
        self.refused(read_events, "deliver e\nfall e\nfall", 1, 2)

    def test_how_many_values_is_not_asked(self):
        self.assertEqual(read_events("make zz insert none none none none none"), (("make", "zz", "insert", (None,) * 5),))

    def test_events_of_runs(self):
        run = Run(NET)
        run.make("h", "insert", (1, None))
        run.make("h", "update", (1, 1))
        list(run.settle())
        run.fall("e", back=2)
        run.leave("f", LOW)
        run.copy("f", HIGH | LOW)
        list(run.settle())
        run.rest("f")
        events = tuple(run.events())
        self.assertEqual(read_events(show_events(events)), events)


if __name__ == "__main__":
    unittest.main()
