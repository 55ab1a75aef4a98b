"""A test case that looks at the class and the field of an error."""

import unittest

FIELDS = {
    "BadKey": "key", "DuplicateKey": "key", "AtRoot": "key", "Overlap": "key", "KeysDiffer": "key", "NoKey": "key",
    "BadWeight": "key", "TooManyKeys": "limit", "TooLong": "limit", "TooManyTrees": "limit", "TooManyWatches": "limit",
    "BadShape": "pos", "BadStep": "pos", "BadCost": "pos", "Contradiction": "pos", "ParseError": "pos",
    "BadSize": "size", "BadName": "name", "NameTaken": "name", "SameName": "name", "NoTree": "name",
    "NoWatch": "number", "BadCommand": "word"}


class RefusalCase(unittest.TestCase):

    def assert_refused(self, error, worth, function, *arguments, **named):
        """The call raises exactly this error, and its field has this value (None for an error without a field)."""
        with self.assertRaises(error) as caught:
            function(*arguments, **named)
        self.assertIs(type(caught.exception), error, arguments)
        field = FIELDS.get(error.__name__)
        expected = {"tag": error.__name__} | ({} if field is None else {field: worth})
        self.assertEqual(vars(caught.exception), expected, arguments)
