"""Points 2 and 18: sets of stretches."""

import itertools
import random
import unittest

from speaklast.ranges import Ranges
from values import any_values, odd_values

# Sets are compared with plain sets of integers in this window. Their bounds
# stay inside of it, so that its edges tell which ends are open.
EDGE = 24
WINDOW = range(-EDGE, EDGE + 1)
BOUND = EDGE - 4


def numbers_of(ranges):
    return {number for number in WINDOW if number in ranges}


def stretch_numbers(low, high):
    return {n for n in WINDOW if (low is None or low <= n) and (high is None or n <= high)}


def fewest_parts(numbers):
    """The parts of a set that is told by its numbers in the window, worked out number by number."""
    parts = []
    for number in WINDOW:
        if number in numbers and number - 1 not in numbers:
            parts.append([number, number])
        elif number in numbers:
            parts[-1][1] = number
    return tuple((None if low == -EDGE else low, None if high == EDGE else high) for low, high in parts)


def random_stretch(chance):
    ends = [chance.randint(-BOUND, BOUND), chance.randint(-BOUND, BOUND)]
    return tuple(None if chance.random() < 0.15 else end for end in ends)


def random_pair(chance):
    """A set, and the plain set of its numbers in the window."""
    ranges, numbers = Ranges.empty(), set()
    for _ in range(chance.randint(0, 6)):
        low, high = random_stretch(chance)
        ranges, numbers = ranges | Ranges.between(low, high), numbers | stretch_numbers(low, high)
    return ranges, numbers


def place_of(number):
    return (abs(number), number < 0)


class MakingTest(unittest.TestCase):
    """Promise 1."""

    def test_example_of_the_document(self):
        self.assertEqual(Ranges.of(1, 2, 4).parts, ((1, 2), (4, 4)))
        self.assertEqual(Ranges.full().parts, ((None, None),))

    def test_of_takes_any_order_and_duplicates(self):
        for order in itertools.permutations((4, 1, 2, 4)):
            self.assertEqual(Ranges.of(*order).parts, ((1, 2), (4, 4)))
        self.assertEqual(Ranges.of().parts, ())
        self.assertEqual(Ranges.of(-7).parts, ((-7, -7),))
        self.assertEqual(Ranges.of(*range(9, -10, -1)).parts, ((-9, 9),))

    def test_between(self):
        self.assertEqual(Ranges.between(2, 5).parts, ((2, 5),))
        self.assertEqual(Ranges.between(5, 5).parts, ((5, 5),))
        self.assertEqual(Ranges.between(None, 5).parts, ((None, 5),))
        self.assertEqual(Ranges.between(-5, None).parts, ((-5, None),))
        self.assertEqual(Ranges.between(None, None).parts, ((None, None),))
        self.assertEqual(Ranges.between(low=0, high=0).parts, ((0, 0),))
        self.assertEqual(Ranges.between(None, 0).parts, ((None, 0),))
        self.assertEqual(Ranges.between(0, None).parts, ((0, None),))

    def test_between_with_low_above_high_is_empty(self):
        for low, high in ((1, 0), (0, -1), (5, -5), (10 ** 11, 10 ** 11 - 1)):
            self.assertEqual(Ranges.between(low, high).parts, ())
            self.assertEqual(Ranges.between(low, high), Ranges.empty())

    def test_empty(self):
        self.assertEqual(Ranges.empty().parts, ())

    def test_parts_are_tuples_of_tuples(self):
        made = Ranges.of(1, 3) | Ranges.between(None, -4)
        for ranges in (made, made & made, made - Ranges.of(1), Ranges.empty() | Ranges.empty()):
            self.assertIsInstance(ranges.parts, tuple)
            self.assertTrue(all(isinstance(part, tuple) and len(part) == 2 for part in ranges.parts))

    def test_stretches_that_touch_are_joined_and_a_missing_number_parts_them(self):
        self.assertEqual((Ranges.between(1, 3) | Ranges.between(4, 6)).parts, ((1, 6),))
        self.assertEqual((Ranges.between(4, 6) | Ranges.between(1, 3)).parts, ((1, 6),))
        self.assertEqual((Ranges.between(1, 3) | Ranges.between(5, 6)).parts, ((1, 3), (5, 6)))
        self.assertEqual((Ranges.between(None, 3) | Ranges.between(4, None)).parts, ((None, None),))
        self.assertEqual((Ranges.between(None, 3) | Ranges.between(5, None)).parts, ((None, 3), (5, None)))
        self.assertEqual((Ranges.between(None, -1) | Ranges.of(0)).parts, ((None, 0),))
        self.assertEqual((Ranges.between(1, None) | Ranges.of(0)).parts, ((0, None),))

    def test_twelve_digits(self):
        most = 10 ** 12 - 1
        self.assertEqual(Ranges.between(-most, most).parts, ((-most, most),))
        self.assertEqual((Ranges.of(most) | Ranges.of(most - 1)).parts, ((most - 1, most),))
        self.assertEqual((Ranges.of(most) | Ranges.of(most - 2)).parts, ((most - 2, most - 2), (most, most)))
        self.assertTrue(most in Ranges.of(most))
        self.assertFalse(most + 1 in Ranges.between(-most, most))

    def test_joined_in_any_order(self):
        stretches = ((None, -9), (-8, -8), (-3, 1), (0, 4), (6, 6))
        for order in itertools.permutations(stretches):
            ranges = Ranges.empty()
            for low, high in order:
                ranges = ranges | Ranges.between(low, high)
            self.assertEqual(ranges.parts, ((None, -8), (-3, 4), (6, 6)))

    def test_many_random_sets_have_the_fewest_parts(self):
        chance = random.Random(1)
        for _ in range(600):
            ranges, numbers = random_pair(chance)
            self.assertEqual(ranges.parts, fewest_parts(numbers))
            self.assertEqual(numbers_of(ranges), numbers)

    def test_many_stretches(self):
        numbers = list(range(-3000, 3000, 3))
        random.Random(2).shuffle(numbers)
        ranges = Ranges.of(*numbers)
        self.assertEqual(ranges.parts, tuple((n, n) for n in range(-3000, 3000, 3)))
        self.assertEqual([n for n in range(-3001, 3001) if n in ranges], list(range(-3000, 3000, 3)))


class AskingTest(unittest.TestCase):
    """Promise 1: in, bool and ==."""

    def test_in_at_and_beside_each_end(self):
        ranges = Ranges.between(None, -5) | Ranges.of(0) | Ranges.between(7, 9) | Ranges.between(20, None)
        inside = (-(10 ** 59), -6, -5, 0, 7, 8, 9, 20, 21, 10 ** 59)
        outside = (-4, -1, 1, 6, 10, 19)
        self.assertEqual([n in ranges for n in inside], [True] * len(inside))
        self.assertEqual([n in ranges for n in outside], [False] * len(outside))

    def test_in_takes_any_value(self):
        for value in odd_values() + [Ranges.of(1), Ranges.full()]:
            for ranges in (Ranges.full(), Ranges.of(0, 1), Ranges.empty()):
                self.assertIs(value in ranges, False)

    def test_true_is_not_one(self):
        self.assertIs(True in Ranges.of(1), False)
        self.assertIs(False in Ranges.of(0), False)
        self.assertIs(1 in Ranges.of(1), True)
        self.assertIs(0 in Ranges.of(0), True)

    def test_nothing_is_in_the_empty_set_and_each_integer_in_the_full_one(self):
        for number in (0, 1, -1, 10 ** 59, -(10 ** 59)):
            self.assertIs(number in Ranges.empty(), False)
            self.assertIs(number in Ranges.full(), True)

    def test_bool(self):
        for ranges in (Ranges.full(), Ranges.of(0), Ranges.between(None, 0)):
            self.assertIs(bool(ranges), True)
        for ranges in (Ranges.empty(), Ranges.of(), Ranges.between(1, 0), Ranges.of(1) & Ranges.of(2)):
            self.assertIs(bool(ranges), False)

    def test_equal_by_the_numbers_alone(self):
        self.assertIs(Ranges.of(1, 2, 3) == Ranges.between(1, 3), True)
        self.assertIs(Ranges.full() == Ranges.between(None, 0) | Ranges.between(1, None), True)
        self.assertIs(Ranges.empty() == Ranges.full() - Ranges.full(), True)
        self.assertIs(Ranges.of(1) == Ranges.of(2), False)
        self.assertIs(Ranges.between(None, 3) == Ranges.between(3, None), False)
        self.assertIs(Ranges.of(1, 2) != Ranges.between(1, 2), False)
        self.assertIs(Ranges.of(1) != Ranges.of(1, 3), True)

    def test_equal_to_no_other_value(self):
        for ranges in (Ranges.of(2), Ranges.between(2, 5), Ranges.of(0, 2)):
            for value in any_values():
                self.assertIs(ranges == value, False)
            self.assertIs(ranges == ranges.parts, False)
        self.assertIs(Ranges.empty() == (), False)
        self.assertIs(Ranges.empty() == None, False)  # noqa: E711
        self.assertIs(Ranges.of(1) == 1, False)


class JoiningTest(unittest.TestCase):
    """Promise 2."""

    def test_union_intersection_difference(self):
        a, b = Ranges.between(None, 5) | Ranges.between(8, 12), Ranges.between(4, 9) | Ranges.of(12, 20)
        self.assertEqual((a | b).parts, ((None, 12), (20, 20)))
        self.assertEqual((a & b).parts, ((4, 5), (8, 9), (12, 12)))
        self.assertEqual((a - b).parts, ((None, 3), (10, 11)))
        self.assertEqual((b - a).parts, ((6, 7), (20, 20)))

    def test_with_empty_and_full_sets(self):
        some, full, empty = Ranges.of(1, 3), Ranges.full(), Ranges.empty()
        self.assertEqual(((some | empty).parts, (some | full).parts), (some.parts, full.parts))
        self.assertEqual(((some & empty).parts, (some & full).parts), ((), some.parts))
        self.assertEqual(((some - empty).parts, (some - full).parts), (some.parts, ()))
        self.assertEqual((full - some).parts, ((None, 0), (2, 2), (4, None)))
        self.assertEqual((empty - some).parts, ())
        self.assertEqual((empty & full).parts, ())
        self.assertEqual((full - empty).parts, ((None, None),))

    def test_twelve_digits(self):
        most = 10 ** 12 - 1
        cut = Ranges.between(-most, most) - Ranges.of(0)
        self.assertEqual(cut.parts, ((-most, -1), (1, most)))
        self.assertEqual((Ranges.full() - cut).parts, ((None, -most - 1), (0, 0), (most + 1, None)))

    def test_random_sets_and_what_came_out_of_them(self):
        chance = random.Random(3)
        for _ in range(400):
            (a, in_a), (b, in_b), (c, in_c) = [random_pair(chance) for _ in range(3)]
            for ranges, numbers in ((a | b, in_a | in_b), (a & b, in_a & in_b), (a - b, in_a - in_b),
                                    ((a | b) & c, (in_a | in_b) & in_c), ((a - b) | c, (in_a - in_b) | in_c),
                                    ((a & b) - c, (in_a & in_b) - in_c), (a - (b - c), in_a - (in_b - in_c))):
                self.assertEqual(ranges.parts, fewest_parts(numbers))

    def test_is_within(self):
        self.assertIs(Ranges.of(2, 4).is_within(Ranges.between(2, 4)), True)
        self.assertIs(Ranges.between(2, 4).is_within(Ranges.of(2, 4)), False)
        self.assertIs(Ranges.between(None, 4).is_within(Ranges.between(0, 4)), False)
        self.assertIs(Ranges.between(0, None).is_within(Ranges.between(0, 10 ** 11)), False)
        self.assertIs(Ranges.empty().is_within(Ranges.empty()), True)
        self.assertIs(Ranges.empty().is_within(Ranges.of(1)), True)
        self.assertIs(Ranges.of(1).is_within(Ranges.empty()), False)
        self.assertIs(Ranges.full().is_within(Ranges.full()), True)
        self.assertIs(Ranges.full().is_within(Ranges.full() - Ranges.of(10 ** 11)), False)

    def test_is_within_of_random_sets(self):
        chance = random.Random(4)
        for _ in range(400):
            (a, in_a), (b, in_b) = random_pair(chance), random_pair(chance)
            self.assertIs(a.is_within(b), in_a <= in_b)
            self.assertIs((a & b).is_within(a), True)
            self.assertIs(a.is_within(a | b), True)

    def test_sets_stay_as_they_are(self):
        a, b = Ranges.of(1, 2, 5), Ranges.between(2, None)
        for _ in (a | b, a & b, a - b, b - a, a == b, a.is_within(b), a.sample(9), 1 in a, bool(a)):
            self.assertEqual((a.parts, b.parts), (((1, 2), (5, 5)), ((2, None),)))


class SampleTest(unittest.TestCase):
    """Promise 3."""

    def test_example_of_the_document(self):
        self.assertEqual(Ranges.between(10 ** 11, None).sample(2), [100000000000, 100000000001])

    def test_order(self):
        self.assertEqual(Ranges.full().sample(6), [0, 1, -1, 2, -2, 3])
        self.assertEqual(Ranges.between(-2, 1).sample(9), [0, 1, -1, -2])
        self.assertEqual(Ranges.between(None, -3).sample(count=3), [-3, -4, -5])
        self.assertEqual((Ranges.of(4, -4) | Ranges.between(7, None)).sample(4), [4, -4, 7, 8])
        self.assertEqual((Ranges.between(None, -6) | Ranges.of(6, 9)).sample(6), [6, -6, -7, -8, 9, -9])

    def test_counts(self):
        self.assertEqual(Ranges.full().sample(0), [])
        self.assertEqual(Ranges.empty().sample(0), [])
        self.assertEqual(Ranges.empty().sample(1000), [])
        self.assertEqual(Ranges.of(5).sample(1000), [5])
        self.assertEqual(Ranges.of(-5, 5).sample(1), [5])
        full = Ranges.full().sample(1000)
        self.assertEqual(full, sorted(range(-499, 501), key=place_of))
        self.assertEqual(Ranges.between(1, None).sample(1000), list(range(1, 1001)))

    def test_far_from_zero(self):
        far = 10 ** 12 - 1
        self.assertEqual(Ranges.between(None, -far).sample(3), [-far, -far - 1, -far - 2])
        both = Ranges.between(far, None) | Ranges.between(None, -far)
        self.assertEqual(both.sample(5), [far, -far, far + 1, -far - 1, far + 2])
        self.assertEqual(Ranges.between(10 ** 11, far).sample(1000), list(range(10 ** 11, 10 ** 11 + 1000)))
        mixed = Ranges.of(-2, far, -far) | Ranges.between(10 ** 11, 10 ** 11 + 1)
        self.assertEqual(mixed.sample(1000), [-2, 10 ** 11, 10 ** 11 + 1, far, -far])

    def test_many_stretches_near_and_far(self):
        chance = random.Random(5)
        for _ in range(30):
            near = [chance.randint(-900, 900) for _ in range(300)]
            far = [chance.randint(-10 ** 12, 10 ** 12) for _ in range(300)]
            wanted = sorted(set(near + far), key=place_of)
            ranges = Ranges.of(*near, *far)
            for count in (0, 1, 2, 299, len(wanted) - 1, len(wanted), 1000):
                self.assertEqual(ranges.sample(count), wanted[:count])

    def test_random_sets(self):
        chance = random.Random(6)
        for _ in range(300):
            ranges = random_pair(chance)[0]
            wanted = [n for n in sorted(range(-80, 81), key=place_of) if n in ranges]
            for count in (0, 1, 2, 7, 40):
                self.assertEqual(ranges.sample(count), wanted[:count])

    def test_the_list_belongs_to_the_caller(self):
        ranges = Ranges.between(0, 3)
        first = ranges.sample(3)
        self.assertIsInstance(first, list)
        first.append(99)
        first[0] = 77
        self.assertEqual(ranges.sample(3), [0, 1, 2])
        self.assertEqual(ranges.parts, ((0, 3),))


class MadeAgainTest(unittest.TestCase):
    """Promise 7."""

    def test_made_again_from_its_parts_in_any_order(self):
        chance = random.Random(7)
        for _ in range(200):
            ranges = random_pair(chance)[0]
            parts = list(ranges.parts)
            chance.shuffle(parts)
            again = Ranges.empty()
            for low, high in parts:
                again = again | Ranges.between(low, high)
            self.assertTrue(again == ranges)
            self.assertEqual(again.parts, ranges.parts)

    def test_within_one_another_is_equal(self):
        chance = random.Random(8)
        sets = [random_pair(chance)[0] for _ in range(40)] + [Ranges.empty(), Ranges.full()]
        for a, b in itertools.product(sets, sets):
            self.assertIs(a == b, a.is_within(b) and b.is_within(a))

    def test_made_again_from_its_sample(self):
        chance = random.Random(9)
        for _ in range(50):
            ranges = random_pair(chance)[0] & Ranges.between(-BOUND, BOUND)
            self.assertTrue(Ranges.of(*ranges.sample(1000)) == ranges)


if __name__ == "__main__":
    unittest.main()
