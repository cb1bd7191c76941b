"""Points 2, 3, 6, 7 and 21: sites and feeds."""

import unittest

from examples import ALL, LOW
from speaklast.errors import InvalidFeed, InvalidSite
from speaklast.feeds import Feed
from speaklast.filters import Filter
from speaklast.sites import Site
from values import any_values

NO_NAMES = any_values() + ["A", "a1", "", "a" * 9, "a ", "a\n", ("a",), ["a"]]
WORDS = ("wait", "skip", "put", "shares", "stamped")


class SitesTest(unittest.TestCase):
    """Promise 4."""

    def refused(self, reason, make):
        with self.assertRaises(InvalidSite) as caught:
            make()
        self.assertEqual(caught.exception.reason, reason)

    def test_attributes_and_defaults(self):
        site = Site("a", "r", "k")
        self.assertEqual((site.name, site.columns, site.policy, site.home), ("a", ("r", "k"), "put", None))
        home = Site("abcdefgh", "k", policy="wait", home=LOW)
        self.assertEqual((home.name, home.policy, home.home), ("abcdefgh", "wait", LOW))
        named = Site.of(name="b", columns=["k", "r"], policy="skip", home=ALL)
        self.assertEqual((named.name, named.columns, named.policy, named.home), ("b", ("k", "r"), "skip", ALL))
        self.assertEqual(Site.of("b", ("k",)).columns, ("k",))
        self.assertEqual(Site.POLICIES, WORDS)

    def test_a_site_may_have_many_columns(self):
        self.assertEqual(len(Site("a", "b", "c", "d", "e", "f").columns), 5)

    def test_a_list_that_is_changed_later_changes_nothing(self):
        columns = ["k", "r"]
        site = Site.of("a", columns)
        columns.append("s")
        self.assertEqual(site.columns, ("k", "r"))

    def test_wrong_names(self):
        for value in NO_NAMES:
            self.refused("name", lambda: Site(value, "k"))
            self.refused("name", lambda: Site.of(value, ["k"]))

    def test_wrong_columns(self):
        self.refused("columns", lambda: Site("a"))
        self.refused("columns", lambda: Site("a", "k", "k"))
        for value in NO_NAMES:
            self.refused("columns", lambda: Site("a", value))
            self.refused("columns", lambda: Site("a", "k", value))
            self.refused("columns", lambda: Site.of("a", value if value != ["a"] and value != ("a",) else 1))
            self.refused("columns", lambda: Site.of("a", ["k", value]))
        self.refused("columns", lambda: Site.of("a", "k"))

    def test_wrong_policies(self):
        site = Site("a", "k", policy="skip")
        for value in any_values() + ["Put", "puts", ["put"], ("put",)]:
            self.refused("policy", lambda: Site("a", "k", policy=value))
            self.refused("policy", lambda: Site.of("a", ["k"], policy=value))
            self.refused("policy", lambda: site.change_policy(value))
            with self.assertRaises(InvalidSite):
                site.policy = value
            self.assertEqual(site.policy, "skip")

    def test_wrong_homes(self):
        for value in any_values():
            if value is not None and not isinstance(value, Filter):
                self.refused("home", lambda: Site("a", "k", home=value))
                self.refused("home", lambda: Site.of("a", ["k"], home=value))

    def test_the_first_wrong_argument_is_told(self):
        self.refused("name", lambda: Site("", "k", "k", policy="", home=0))
        self.refused("columns", lambda: Site("a", "k", "k", policy="", home=0))
        self.refused("policy", lambda: Site("a", "k", policy="", home=0))

    def test_the_policy_is_assigned(self):
        site = Site("a", "k")
        for word in WORDS:
            site.policy = word
            self.assertEqual(site.policy, word)
        for word in WORDS:
            self.assertIsNone(site.change_policy(word=word))
            self.assertEqual(site.policy, word)


class FeedsTest(unittest.TestCase):
    """Promise 4."""

    def refused(self, reason, make):
        with self.assertRaises(InvalidFeed) as caught:
            make()
        self.assertEqual(caught.exception.reason, reason)

    def test_attributes_and_defaults(self):
        feed = Feed("f", "a", "b")
        self.assertEqual((feed.name, feed.source, feed.target, feed.where), ("f", "a", "b", Filter.always()))
        self.assertIs(feed.own, False)
        feed = Feed(name="f", source="a", target="b", where=LOW, own=True)
        self.assertEqual((feed.where, feed.own), (LOW, True))
        self.assertEqual(Feed("f", "a", "b", where=None).where, Filter.always())
        self.assertEqual(Feed("f", "a", "a").target, "a")

    def test_wrong_arguments(self):
        for value in NO_NAMES:
            self.refused("name", lambda: Feed(value, "a", "b"))
            self.refused("source", lambda: Feed("f", value, "b"))
            self.refused("target", lambda: Feed("f", "a", value))
        for value in any_values():
            if value is not None and not isinstance(value, Filter):
                self.refused("where", lambda: Feed("f", "a", "b", where=value))
            if value is not True and value is not False:
                self.refused("own", lambda: Feed("f", "a", "b", own=value))

    def test_the_first_wrong_argument_is_told(self):
        self.refused("name", lambda: Feed(0, 0, 0, where=0, own=0))
        self.refused("source", lambda: Feed("f", 0, 0, where=0, own=0))
        self.refused("target", lambda: Feed("f", "a", 0, where=0, own=0))
        self.refused("where", lambda: Feed("f", "a", "b", where=0, own=0))
        self.refused("own", lambda: Feed("f", "a", "b", own=0))


if __name__ == "__main__":
    unittest.main()
