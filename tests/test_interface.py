"""The names, the parameters and the places of definition that the interface of the document states."""

import importlib
import inspect
import unittest

FUNCTIONS = {
    "kinds": {
        name: "(thing)" for name in (
            "is_integer", "is_number", "is_name", "is_kind", "is_entry", "is_book", "is_maker", "is_term", "is_stand",
        )
    },
    "bookchecker": {"lets_book": "(thing)"},
    "bookreadings": {"kind_read": "(text, *, line=0)", "entry_read": "(text, *, line=0)", "book_read": "(text)"},
    "makerreadings": {"maker_read": "(text)"},
    "benchevents": {"is_event": "(thing)"},
    "benchreadings": {"read_event": "(text)", "read_log": "(lines)"},
}


class InterfaceTest(unittest.TestCase):
    def test_functions(self):
        for name, functions in FUNCTIONS.items():
            module = importlib.import_module("onlygiven." + name)
            for function, parameters in functions.items():
                found = getattr(module, function)
                self.assertTrue(inspect.isfunction(found))
                self.assertEqual(found.__module__, "onlygiven." + name)
                self.assertEqual(str(inspect.signature(found)), parameters)


if __name__ == "__main__":
    unittest.main()
