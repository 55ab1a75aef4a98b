"""The error classes: base classes, fields and tags."""

import unittest

from touchtrees import errors

UNDER_TREE_ERROR = {
    "BadKey": "key",
    "DuplicateKey": "key",
    "BadShape": "pos",
    "TooManyKeys": "limit",
    "AtRoot": "key",
    "Overlap": "key",
    "KeysDiffer": "key",
    "BadStep": "pos",
    "BadCost": "pos",
    "BadSize": "size",
    "BadWeight": "key",
    "TooLong": "limit",
    "Contradiction": "pos",
    "BadName": "name",
    "NameTaken": "name",
    "SameName": "name",
    "TooManyTrees": "limit",
    "TooManyWatches": "limit",
    "BadCommand": "word",
    "ParseError": "pos",
}
UNDER_MISSING = {"NoKey": "key", "NoTree": "name", "NoWatch": "number"}
WITH_FIELD = UNDER_TREE_ERROR | UNDER_MISSING
TEXT_FIELDS = ("name", "word")


def class_named(name):
    return getattr(errors, name)


class Hierarchy(unittest.TestCase):

    def test_exactly_the_listed_classes_exist(self):
        found = {name for name, thing in vars(errors).items() if isinstance(thing, type)}
        self.assertEqual(found, set(WITH_FIELD) | {"TreeError", "Missing", "EmptyHistory"})

    def test_the_classes_that_others_stand_under(self):
        self.assertEqual(errors.TreeError.__bases__, (ValueError,))
        self.assertEqual(errors.Missing.__bases__, (LookupError,))
        self.assertEqual(errors.EmptyHistory.__bases__, (IndexError,))

    def test_each_class_stands_directly_under_its_base(self):
        for name in UNDER_TREE_ERROR:
            with self.subTest(name):
                self.assertEqual(class_named(name).__bases__, (errors.TreeError,))
        for name in UNDER_MISSING:
            with self.subTest(name):
                self.assertEqual(class_named(name).__bases__, (errors.Missing,))

    def test_no_class_derives_from_another_one_except_as_stated(self):
        leaves = list(WITH_FIELD) + ["EmptyHistory"]
        for one in leaves:
            for other in leaves:
                if one != other:
                    self.assertFalse(issubclass(class_named(one), class_named(other)), (one, other))
        for name in UNDER_TREE_ERROR:
            self.assertFalse(issubclass(class_named(name), LookupError), name)
        for name in list(UNDER_MISSING) + ["EmptyHistory"]:
            self.assertFalse(issubclass(class_named(name), ValueError), name)
        self.assertFalse(issubclass(errors.EmptyHistory, errors.Missing))

    def test_each_class_has_the_name_under_which_it_is_found(self):
        for name in list(WITH_FIELD) + ["TreeError", "Missing", "EmptyHistory"]:
            self.assertEqual(class_named(name).__name__, name)


class FieldsAndTags(unittest.TestCase):

    def test_each_error_has_its_field_and_its_tag(self):
        for name, field in WITH_FIELD.items():
            for worth in ("", "oak") if field in TEXT_FIELDS else (-7, 0, 10 ** 30):
                with self.subTest(name, worth=worth):
                    error = class_named(name)(worth)
                    self.assertEqual(vars(error), {field: worth, "tag": name})

    def test_the_word_of_a_bad_command_may_be_none(self):
        error = errors.BadCommand(None)
        self.assertIsNone(error.word)
        self.assertEqual(error.tag, "BadCommand")

    def test_empty_history_has_a_tag_only(self):
        self.assertEqual(vars(errors.EmptyHistory()), {"tag": "EmptyHistory"})

    def test_each_error_has_a_message(self):
        for name, field in WITH_FIELD.items():
            worth = "oak" if field in TEXT_FIELDS else 417
            self.assertIn(str(worth), str(class_named(name)(worth)), name)
        self.assertNotEqual(str(errors.EmptyHistory()), "")


if __name__ == "__main__":
    unittest.main()
