"""Points 2, 5 and 19: filters and their three truths."""

import itertools
import random
import unittest

from speaklast.filters import Filter
from speaklast.ranges import Ranges
from values import any_values

TRUTHS = (True, False, None)
COLUMNS = ("k", "r", "u", "long")


def saying(truth):
    """A filter over the column t that says this of {"t": None}."""
    if truth is None:
        return Filter.within("t", Ranges.of(1))
    return Filter.always() if truth else Filter.never()


def told_by_table(word, truths):
    """The words of point 5, one by one."""
    one, other = {"and": (False, True), "or": (True, False)}[word]
    if one in truths:
        return one
    return None if None in truths else other


def random_ranges(chance):
    low = chance.randint(-6, 6)
    return Ranges.between(low, low + chance.randint(0, 5)) | Ranges.of(chance.randint(-9, 9))


def random_condition(chance):
    kind = chance.randint(0, 9)
    if kind == 0:
        return Filter.always()
    if kind == 1:
        return Filter.never()
    column = chance.choice(COLUMNS)
    return Filter.missing(column) if kind < 4 else Filter.within(column, random_ranges(chance))


def random_filter(chance, conditions):
    """A filter with this number of conditions, split and negated by chance."""
    if conditions == 1:
        made = random_condition(chance)
    else:
        left = chance.randint(1, conditions - 1)
        one, other = random_filter(chance, left), random_filter(chance, conditions - left)
        made = one & other if chance.random() < 0.5 else one | other
    return ~made if chance.random() < 0.3 else made


def random_values(chance):
    names = list(COLUMNS) + ["more"]
    chance.shuffle(names)
    return {name: chance.choice((None, *range(-8, 9))) for name in names}


def truth_by_tree(tree, values):
    """What a filter must say, read off its tree by Python's own means."""
    if tree[0] == "within":
        value = values[tree[1]]
        return None if value is None else any(
            (low is None or low <= value) and (high is None or value <= high) for low, high in tree[2])
    if tree[0] == "missing":
        return values[tree[1]] is None
    if tree[0] in ("always", "never"):
        return tree[0] == "always"
    truths = [truth_by_tree(part, values) for part in tree[1:]]
    if tree[0] == "not":
        return {True: False, False: True, None: None}[truths[0]]
    return told_by_table(tree[0], truths)


def columns_by_tree(tree):
    if tree[0] in ("within", "missing"):
        return {tree[1]}
    return set().union(*(columns_by_tree(part) for part in tree[1:]))


class CallingTest(unittest.TestCase):
    """Promise 4."""

    def test_example_of_the_document(self):
        small = Filter.within("k", Ranges.between(None, 10)) & ~Filter.missing("r")
        not_one = ~Filter.within("r", Ranges.of(1))
        self.assertEqual([small({"k": 3, "r": 0}), small({"k": 3, "r": None}), not_one({"r": None}), small.columns],
                         [True, False, None, ("k", "r")])

    def test_the_three_truths(self):
        values = {"t": None}
        for one, other in itertools.product(TRUTHS, TRUTHS):
            self.assertIs((saying(one) & saying(other))(values), told_by_table("and", (one, other)))
            self.assertIs((saying(one) | saying(other))(values), told_by_table("or", (one, other)))
        self.assertEqual([(~saying(truth))(values) for truth in TRUTHS], [False, True, None])

    def test_always_and_never(self):
        self.assertIs(Filter.always()({}), True)
        self.assertIs(Filter.never()({}), False)
        self.assertIs((~Filter.never())({"k": None}), True)
        self.assertIs((~Filter.always())(values={"k": None}), False)

    def test_the_full_and_the_empty_set(self):
        for ranges, truth in ((Ranges.full(), True), (Ranges.empty(), False)):
            within = Filter.within("k", ranges)
            self.assertIs(within({"k": 0}), truth)
            self.assertIs(within({"k": 10 ** 29}), truth)
            self.assertIs(within({"k": None}), None)

    def test_random_filters_of_up_to_sixty_conditions(self):
        chance = random.Random(1)
        for conditions in itertools.chain(range(1, 61), range(1, 61), (90,)):
            made = random_filter(chance, conditions)
            for _ in range(20):
                values = random_values(chance)
                before = list(values.items())
                self.assertIs(made(values), truth_by_tree(made.tree, values))
                self.assertEqual(list(values.items()), before)

    def test_deep_filters(self):
        for depth in (20, 25, 200):
            deep = Filter.missing("k")
            for at in range(depth - 1):
                deep = (~deep, deep & Filter.always(), Filter.never() | deep)[at % 3]
            for values in ({"k": None}, {"k": 1}):
                self.assertIs(deep(values), truth_by_tree(deep.tree, values))
            self.assertEqual(deep.columns, ("k",))

    def test_columns_are_ascending_and_each_once(self):
        number = Ranges.of(1)
        made = (Filter.within("r", number) | Filter.missing("k")) & ~(Filter.within("b", number) & Filter.missing("r"))
        self.assertEqual(made.columns, ("b", "k", "r"))
        self.assertEqual(Filter.within(column="z", ranges=number).columns, ("z",))
        self.assertEqual(Filter.missing(column="z").columns, ("z",))
        self.assertEqual((Filter.always() & ~Filter.never()).columns, ())
        self.assertEqual((Filter.missing("k") & Filter.missing("k")).columns, ("k",))
        self.assertEqual((Filter.missing("ab") | Filter.missing("b") | Filter.missing("aab")).columns,
                         ("aab", "ab", "b"))

    def test_columns_of_random_filters(self):
        chance = random.Random(2)
        for conditions in range(1, 40):
            made = random_filter(chance, conditions)
            self.assertIsInstance(made.columns, tuple)
            self.assertEqual(made.columns, tuple(sorted(columns_by_tree(made.tree))))

    def test_trees(self):
        within, missing = Filter.within("k", Ranges.of(4, 1, 2)), Filter.missing("r")
        self.assertEqual(within.tree, ("within", "k", ((1, 2), (4, 4))))
        self.assertEqual(missing.tree, ("missing", "r"))
        self.assertEqual(Filter.always().tree, ("always",))
        self.assertEqual(Filter.never().tree, ("never",))
        self.assertEqual((within & missing).tree, ("and", within.tree, missing.tree))
        self.assertEqual((missing | within).tree, ("or", missing.tree, within.tree))
        self.assertEqual((~within).tree, ("not", within.tree))
        self.assertEqual(Filter.within("k", Ranges.empty()).tree, ("within", "k", ()))
        self.assertEqual(Filter.within("k", Ranges.full()).tree, ("within", "k", ((None, None),)))


class BuildingTest(unittest.TestCase):
    """Promise 5."""

    def test_equal_exactly_if_the_trees_are(self):
        chance = random.Random(3)
        made = [random_filter(chance, conditions) for conditions in (1, 1, 1, 1, 1, 2, 2, 2, 3, 3, 8, 60)]
        made += [random_condition(chance) for _ in range(20)]
        for one, other in itertools.product(made, made):
            self.assertIs(one == other, one.tree == other.tree)
            self.assertIs(one != other, one.tree != other.tree)

    def test_equal_filters_that_were_made_apart(self):
        def make():
            return (Filter.within("k", Ranges.of(1)) | Filter.missing("r")) & ~Filter.never()
        self.assertIs(make() == make(), True)
        self.assertIs(Filter.within("k", Ranges.of(1, 2)) == Filter.within("k", Ranges.between(1, 2)), True)

    def test_unequal_filters_that_say_the_same(self):
        one, other = Filter.missing("k"), Filter.missing("r")
        self.assertIs((one & other) == (other & one), False)
        self.assertIs(~~one == one, False)
        self.assertIs((one & one) == one, False)
        self.assertIs((one & Filter.always()) == one, False)
        self.assertIs(~Filter.always() == Filter.never(), False)
        self.assertIs(Filter.within("k", Ranges.empty()) == Filter.never(), False)
        self.assertIs(Filter.within("k", Ranges.of(1)) == Filter.within("r", Ranges.of(1)), False)
        self.assertIs(Filter.within("k", Ranges.of(1)) == Filter.within("k", Ranges.of(2)), False)
        self.assertIs(((one & other) & one) == (one & (other & one)), False)

    def test_equal_to_no_other_value(self):
        made = Filter.missing("k") | Filter.within("k", Ranges.of(2))
        for value in any_values() + [made.tree, list(made.tree), made.columns, Ranges.of(2)]:
            self.assertIs(made == value, False)
            self.assertIs(made != value, True)
        self.assertIs(Filter.always() == ("always",), False)
        self.assertIs(Filter.always() == True, False)  # noqa: E712
        self.assertIs(Filter.never() == None, False)  # noqa: E711

    def test_a_part_of_others_stays_as_it_was(self):
        part = Filter.within("k", Ranges.of(1)) | Filter.missing("r")
        tree, columns = part.tree, part.columns
        for made in (part & Filter.missing("a"), Filter.missing("z") | part, ~part, part & part):
            self.assertEqual((part.tree, part.columns), (tree, columns))
            self.assertIn(tree, made.tree)
        self.assertEqual(tree, ("or", ("within", "k", ((1, 1),)), ("missing", "r")))
        self.assertEqual(columns, ("k", "r"))

    def test_ranges_that_are_used_again_do_not_change_a_filter(self):
        ranges = Ranges.of(1)
        made = Filter.within("k", ranges)
        ranges = ranges | Ranges.of(2)
        self.assertEqual(made.tree, ("within", "k", ((1, 1),)))
        self.assertIs(made({"k": 2}), False)

    def test_nothing_is_simplified(self):
        always, never = Filter.always(), Filter.never()
        self.assertEqual((always & always).tree, ("and", ("always",), ("always",)))
        self.assertEqual((never | always).tree, ("or", ("never",), ("always",)))
        self.assertEqual((~~always).tree, ("not", ("not", ("always",))))
        self.assertEqual((never & Filter.missing("k")).columns, ("k",))


class TogetherTest(unittest.TestCase):
    """Promise 6."""

    def test_within_says_what_the_set_says(self):
        chance = random.Random(4)
        far = 10 ** 12 - 1
        sets = [random_ranges(chance) - random_ranges(chance) for _ in range(60)]
        sets += [Ranges.empty(), Ranges.full(), Ranges.between(None, -far), Ranges.between(far, None), Ranges.of(0, 2)]
        for ranges in sets:
            within = Filter.within("k", ranges)
            ends = [end for part in ranges.parts for end in part if end is not None]
            for number in [end + beside for end in ends for beside in (-1, 0, 1)] + [0, 10 ** 29, -(10 ** 29)]:
                self.assertIs(within({"k": number}), number in ranges)
            self.assertIs(within({"k": None}), None)

    def test_joined_sets_and_joined_filters_say_the_same_of_integers(self):
        chance = random.Random(5)
        for _ in range(60):
            a, b = random_ranges(chance), random_ranges(chance)
            f, g = Filter.within("k", a), Filter.within("k", b)
            for number in range(-12, 13):
                values = {"k": number}
                self.assertIs((f | g)(values), number in a | b)
                self.assertIs((f & g)(values), number in a & b)
                self.assertIs((f & ~g)(values), number in a - b)

    def test_missing_is_true_or_false(self):
        for value in (None, 0, 1, -1, 10 ** 29):
            self.assertIs(Filter.missing("k")({"k": value, "r": None}), value is None)

    def test_double_negation_says_the_same(self):
        chance = random.Random(6)
        for conditions in range(1, 30):
            made = random_filter(chance, conditions)
            for _ in range(20):
                values = random_values(chance)
                self.assertIs((~~made)(values), made(values))
        self.assertIs((~~saying(None))({"t": None}), None)


if __name__ == "__main__":
    unittest.main()
