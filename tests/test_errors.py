import unittest

from onlygiven.errors import (
    BenchError, BookError, Broken, GivenError, InvalidEvent, InvalidPaper, InvalidRow, InvalidText, NotMade, NotOne,
    NothingToUndo, NotUsable, PaperError, TextError,
)
from values import ANY_VALUES

FAMILIES = (PaperError, BookError, BenchError, TextError)

ERRORS = (
    (InvalidPaper, PaperError, ("word", "at")),
    (NotUsable, BookError, ("word", "at")),
    (NotMade, BookError, ("wish",)),
    (NotOne, BookError, ("place", "number")),
    (InvalidEvent, BenchError, ("event", "reason")),
    (NothingToUndo, BenchError, ("steps",)),
    (Broken, BenchError, ("done",)),
    (InvalidText, TextError, ("line", "column")),
    (InvalidRow, TextError, ("row",)),
)

# A field may be any value, and numbers of makers may be of any size.
FIELDS = ANY_VALUES + [10 ** 5000, (10 ** 5000,), ValueError("x")]


class ErrorsTest(unittest.TestCase):
    def test_classes(self):
        self.assertEqual(GivenError.__bases__, (ValueError,))
        for family in FAMILIES:
            self.assertEqual(family.__bases__, (GivenError,))
        for error, family, _ in ERRORS:
            self.assertEqual(error.__bases__, (family,))

    def test_all_stand_in_the_module(self):
        for found in FAMILIES + (GivenError,) + tuple(error for error, _, _ in ERRORS):
            self.assertEqual(found.__module__, "onlygiven.errors")

    def test_fields_by_position(self):
        for error, _, names in ERRORS:
            for field in FIELDS:
                values = [field] + [object() for _ in names[1:]]
                self.check_fields(error(*values), names, values)
                self.check_fields(error(*values[::-1]), names, values[::-1])

    def test_fields_by_name(self):
        for error, _, names in ERRORS:
            for field in FIELDS:
                values = [field] + [object() for _ in names[1:]]
                self.check_fields(error(**dict(zip(names, values))), names, values)

    def check_fields(self, made, names, values):
        self.assertEqual(sorted(vars(made)), sorted(names))
        for name, value in zip(names, values):
            self.assertIs(getattr(made, name), value)
        self.assertIsInstance(str(made), str)

    def test_exactly_these_fields(self):
        for error, _, names in ERRORS:
            for count in (0, len(names) - 1, len(names) + 1):
                if count != len(names):
                    with self.assertRaises(TypeError):
                        error(*range(count))
            with self.assertRaises(TypeError):
                error(*range(len(names)), other=1)

    def test_caught_as_every_base(self):
        for error, family, names in ERRORS:
            for base in (error, family, GivenError, ValueError):
                with self.assertRaises(base):
                    raise error(*names)
            for other in FAMILIES:
                self.assertEqual(issubclass(error, other), other is family)

    def test_a_list_is_kept_not_copied(self):
        event = ["let", "p"]
        error = InvalidEvent(event, "shape")
        event.append("q")
        self.assertEqual(error.event, ["let", "p", "q"])


if __name__ == "__main__":
    unittest.main()
