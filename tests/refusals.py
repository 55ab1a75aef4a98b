"""A test case that looks at the class and the field of an error."""

import unittest

FIELDS = {
    "BadKey": "key", "DuplicateKey": "key", "AtRoot": "key", "Overlap": "key", "KeysDiffer": "key", "NoKey": "key",
    "TooManyKeys": "limit", "TooLong": "limit", "BadStep": "pos", "BadCost": "pos", "BadSize": "size"}


class RefusalCase(unittest.TestCase):

    def assert_refused(self, error, worth, function, *arguments, **named):
        """The call raises exactly this error, and its field has this value."""
        with self.assertRaises(error) as caught:
            function(*arguments, **named)
        self.assertIs(type(caught.exception), error, arguments)
        self.assertEqual(getattr(caught.exception, FIELDS[error.__name__]), worth, arguments)
