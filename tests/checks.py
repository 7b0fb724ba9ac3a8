"""What the tests ask of results and errors."""

import unittest


def same_kind(left, right):
    """Equal, and of the same classes throughout: True is not 1."""
    if type(left) is not type(right):
        return False
    if isinstance(left, (tuple, list)):
        return len(left) == len(right) and all(same_kind(a, b) for a, b in zip(left, right))
    return left == right


class Checks(unittest.TestCase):
    def assert_is(self, result, expected):
        self.assertTrue(same_kind(result, expected), f"{result!r} is not {expected!r}")

    def assert_raises(self, error, fields, function, /, *arguments, **named):
        """The very class of the error is asked for, and exactly its fields."""
        with self.assertRaises(error) as caught:
            function(*arguments, **named)
        self.assertIs(type(caught.exception), error)
        told = vars(caught.exception)
        self.assertEqual(sorted(told), sorted(fields))
        for field in fields:
            self.assert_is(told[field], fields[field])
