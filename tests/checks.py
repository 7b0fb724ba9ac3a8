"""What the tests ask of results and errors."""

import copy
import inspect
import itertools
import unittest

from onlygiven.errors import NotUsable


def same_kind(left, right):
    """Equal, and of the same classes throughout: True is not 1."""
    if type(left) is not type(right):
        return False
    if isinstance(left, (tuple, list)):
        return len(left) == len(right) and all(same_kind(a, b) for a, b in zip(left, right))
    return left == right


def called_by_position(function, named):
    """The call with all that may be passed by position passed so."""
    places = [parameter.name for parameter in inspect.signature(function).parameters.values()
              if parameter.kind is parameter.POSITIONAL_OR_KEYWORD]
    arguments = [named[name] for name in places if name in named]
    return function(*arguments, **{name: named[name] for name in named if name not in places})


class Checks(unittest.TestCase):
    def assert_is(self, result, expected):
        self.assertTrue(same_kind(result, expected), f"{result!r} is not {expected!r}")

    def assert_raises(self, error, fields, function, /, *arguments, **named):
        """The very class of the error is asked for, and exactly its fields."""
        with self.assertRaises(error) as caught:
            function(*arguments, **named)
        self.assertIs(type(caught.exception), error)
        told = vars(caught.exception)
        self.assertEqual(sorted(told), sorted(fields))
        for field in fields:
            self.assert_is(told[field], fields[field])

    def assert_unusable(self, word, at, function, /, *arguments, **named):
        self.assert_raises(NotUsable, {"word": word, "at": at}, function, *arguments, **named)

    def assert_gives(self, expected, function, /, **named):
        """By name and by position."""
        self.assert_is(function(**named), expected)
        self.assert_is(called_by_position(function, named), expected)

    def refused(self, word, function, named):
        """By name and by position, and nothing that is handed in changes."""
        before = copy.deepcopy(named)
        self.assert_unusable(word, -1, function, **named)
        self.assert_unusable(word, -1, called_by_position, function, named)
        self.assert_is(list(named.values()), list(before.values()))

    def check_parameters(self, function, good, wrong):
        """Each parameter with each of its wrong values, alone and beside one of each later parameter.

        good and wrong have the parameters in their order.
        """
        for word, things in wrong.items():
            for thing in things:
                self.refused(word, function, {**good, word: thing})
        for word, later in itertools.combinations(wrong, 2):
            for thing, other in zip(wrong[word], itertools.cycle(wrong[later])):
                self.refused(word, function, {**good, word: thing, later: other})
            for thing, other in zip(itertools.cycle(wrong[word]), wrong[later]):
                self.refused(word, function, {**good, word: thing, later: other})
