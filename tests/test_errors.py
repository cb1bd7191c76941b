"""Point 17: the error classes, their bases and their fields."""

import unittest

import speaklast.errors as errors
from values import any_values

# Each class with its one direct base and its fields, in order.
CLASSES = {
    "InvalidTable": ("FeedError", ("reason",)),
    "InvalidChange": ("FeedError", ("reason",)),
    "InvalidSite": ("FeedError", ("reason",)),
    "InvalidFeed": ("FeedError", ("reason",)),
    "InvalidNet": ("FeedError", ("reason", "name")),
    "InvalidStep": ("FeedError", ("reason",)),
    "InvalidText": ("FeedError", ("line", "word")),
    "UnknownCommand": ("FeedError", ("line",)),
    "UnknownName": (KeyError, ("name",)),
    "InvalidUndo": (IndexError, ("count",)),
    "InvalidFall": (IndexError, ("back",)),
    "NothingPending": (LookupError, ("name",)),
    "Blocked": (RuntimeError, ("name",)),
    "TooMany": (OverflowError, ("count",)),
}


def class_of(name):
    return getattr(errors, name)


class BasesTest(unittest.TestCase):
    def test_feed_error_is_a_value_error(self):
        self.assertEqual(errors.FeedError.__bases__, (ValueError,))

    def test_each_class_has_just_its_named_base(self):
        for name, (base, _) in CLASSES.items():
            wanted = errors.FeedError if base == "FeedError" else base
            self.assertEqual(class_of(name).__bases__, (wanted,), name)

    def test_there_are_no_further_classes(self):
        found = {name for name, thing in vars(errors).items() if isinstance(thing, type)}
        self.assertEqual(found, {"FeedError", *CLASSES})

    def test_nothing_pending_is_no_key_error_and_no_index_error(self):
        self.assertFalse(issubclass(errors.NothingPending, (KeyError, IndexError)))


class FieldsTest(unittest.TestCase):
    def assert_kept(self, error, fields, given):
        for field, value in zip(fields, given):
            self.assertIs(getattr(error, field), value)

    def test_fields_are_kept_as_they_are(self):
        values = any_values()
        for name, (_, fields) in CLASSES.items():
            for at in range(len(values)):
                given = (values[at], values[at - 1])[:len(fields)]
                self.assert_kept(class_of(name)(*given), fields, given)
                self.assert_kept(class_of(name)(**dict(zip(fields, given))), fields, given)

    def test_a_list_is_kept_and_not_copied(self):
        told = [1]
        self.assertIs(errors.InvalidUndo(told).count, told)
        self.assertEqual(told, [1])

    def test_two_fields_stand_in_their_order(self):
        net, text = errors.InvalidNet("stamps", "e"), errors.InvalidText(2, 6)
        self.assertEqual((net.reason, net.name, text.line, text.word), ("stamps", "e", 2, 6))
        mixed = errors.InvalidText(2, word=6)
        self.assertEqual((mixed.line, mixed.word), (2, 6))

    def test_too_few_and_too_many_fields_are_refused(self):
        for name, (_, fields) in CLASSES.items():
            for many in (len(fields) - 1, len(fields) + 1):
                with self.assertRaises(TypeError):
                    class_of(name)(*["x"] * many)

    def test_feed_error_takes_one_argument(self):
        for value in any_values():
            self.assertIsInstance(errors.FeedError(value), errors.FeedError)
        for given in ((), (1, 2)):
            with self.assertRaises(TypeError):
                errors.FeedError(*given)

    def test_each_class_is_raised_and_caught_by_its_base(self):
        for name, (base, fields) in CLASSES.items():
            wanted = errors.FeedError if base == "FeedError" else base
            with self.assertRaises(wanted):
                raise class_of(name)(*fields)


if __name__ == "__main__":
    unittest.main()
