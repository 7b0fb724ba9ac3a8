"""The names, the parameters and the places of definition that the interface of the document states."""

import importlib
import inspect
import unittest

FUNCTIONS = {
    "kinds": {
        name: "(thing)" for name in (
            "is_integer", "is_number", "is_name", "is_kind", "is_entry", "is_book", "is_maker", "is_term", "is_stand",
        )
    },
    "bookchecker": {"lets_book": "(thing)"},
    "kindparts": {
        **{name: "(kind)" for name in ("parts_of", "end_of", "atoms_of", "size_of", "order_of", "kinds_within")},
        "kind_from": "(parts, end)",
    },
    "kindchanges": {
        "instance_of": "(kind, atom, other)", "with_part": "(kind, part, *, at=0)", "without_part": "(kind, k)",
    },
    "bookchanges": {
        "with_name": "(book, name, kind)", "without_name": "(book, name)", "with_kind": "(book, name, kind)",
        "handed": "(book, names)", "renamed": "(book, name, other)", "joined": "(book, other)",
        "instance_book": "(book, atom, other)",
    },
    "booktexts": {"entry_text": "(entry)", "book_text": "(book)"},
    "bookreadings": {"kind_read": "(text, *, line=0)", "entry_read": "(text, *, line=0)", "book_read": "(text)"},
    "makerreadings": {"maker_read": "(text)"},
    "judging": {"can_make": "(book, wish)", "smallest_maker": "(book, wish)"},
    "counting": {"how_many": "(book, wish)", "how_many_of": "(book, wish, size)", "count_paper": "(book, wish)"},
    "makers": {
        "lets_maker": "(book, wish, thing)", "places_of": "(maker)", "part_at": "(maker, place)", "maker_size": "(maker)",
        "maker_levels": "(maker)", "names_in": "(maker)", "uses_of": "(maker, name)",
        "wanted_at": "(book, wish, maker, place)",
    },
    "termchecker": {"lets_term": "(book, thing)", "kind_of": "(book, term)"},
    "plainforms": {
        "plain_of": "(book, term)", "are_alike": "(book, term, other)", "applied": "(book, wish, maker, *others)",
    },
    "termforms": {"term_of": "(book, wish, maker)"},
    "makertexts": {"maker_text": "(maker)", "tree_rows": "(book, wish, maker)"},
    "standing": {
        "first_stand": "(wish)", "heads_at": "(book, stand)", "stand_behind": "(stand, part)",
        "stands_from": "(book, wish)", "makeable_stands": "(book, wish)",
    },
    "shuttables": {"shut_table": "(book, wish)"},
    "worlds": {"world_of": "(book, wish)", "holds_at": "(world, row, kind)"},
    "worldchecker": {"lets_world": "(book, wish, thing)"},
    "tablechecker": {"lets_shut": "(book, wish, thing)"},
    "countchecker": {"lets_count": "(book, wish, thing)"},
    "ordering": {
        "maker_at": "(book, wish, k)", "number_of": "(book, wish, maker)", "makers_of": "(book, wish)",
        "is_lesser": "(book, wish, maker, other)",
    },
    "pumping": {"pumped": "(book, wish, maker, place, deeper, times)"},
    "pricing": {name: "(book, wish, prices)" for name in ("least_price", "cheapest_maker", "price_paper")},
    "pricechecker": {"lets_price": "(book, wish, prices, thing)"},
    "uses": {"most_uses": "(book, wish, name)", "use_paper": "(book, wish, name)"},
    "usechecker": {"lets_uses": "(book, wish, name, thing)"},
    "naming": {
        name: "(book, wish)" for name in ("needed_names", "names_of_use", "least_names", "greatest_without")
    },
    "handing": {
        name: "(book, let, barred)" for name in ("greatest_handouts", "least_handouts", "handout_paper")
    },
    "handchecker": {"lets_handout": "(book, let, barred, thing)"},
    "fillingcounts": {
        "how_many_fillings": "(low, high)", "filling_for": "(low, high)", "gives_all": "(high, low)",
        "lacking_names": "(high, low)",
    },
    "instances": {"instance_maker": "(book, wish, maker, atom, other)"},
    "gaps": {"filled_term": "(book, term, kind)"},
    "benchevents": {"is_event": "(thing)"},
    "benchlogs": {"is_log": "(thing)", "replayed": "(log)"},
    "benchtexts": {"event_line": "(event)", "log_lines": "(log)"},
    "benchreadings": {"read_event": "(text)", "read_log": "(lines)"},
}

# For each class its module, its base, its own parameters, its methods with their parameters, its properties.
CLASSES = {
    "Book": ("bookclasses", "object", "(entries=())", {
        "__call__": "(self, atom)", "lies_in": "(self, other)", "__eq__": "(self, other)", "__add__": "(self, other)",
        "__sub__": "(self, other)", "__or__": "(self, other)", "__and__": "(self, other)", "__len__": "(self)",
        "__iter__": "(self)", "__str__": "(self)", "__getitem__": "(self, at)", "__contains__": "(self, x)",
    }, ("entries", "atoms")),
    "Handed": ("bookclasses", "Book", "(book, *names)", {}, ("told",)),
    "Instance": ("bookclasses", "Book", "(book, atom, other)", {}, ("told",)),
    "Builder": ("builders", "object", "(book, wish)", {
        "offers": "(self)", "take": "(self, head)", "set_next": "(self, head)", "__iadd__": "(self, other)",
        "back": "(self)", "forced": "(self)", "trial": "(self)", "tried": "(self, *heads)",
    }, ("goals_now", "is_done", "made_now", "next_head")),
    "Kind": ("kindclasses", "object", "(spelling)", {
        "__getitem__": "(self, at)", "__len__": "(self)", "__iter__": "(self)", "__str__": "(self)",
        "__contains__": "(self, x)", "__eq__": "(self, other)", "__rshift__": "(self, other)", "__call__": "(self, other)",
    }, ("spelling", "parts", "end")),
    "Meaning": ("meanings", "object", "(book, values)", {
        "__call__": "(self, term)", "of_maker": "(self, wish, maker)",
    }, ()),
    "Recorder": ("recorders", "object", "(book)", {"__call__": "(self, term)", "record": "(self, wish, maker)"}, ()),
    "Maker": ("makerclasses", "object", "(book, wish, form)", {
        "__len__": "(self)", "__str__": "(self)", "__eq__": "(self, other)", "__contains__": "(self, x)",
        "__getitem__": "(self, at)", "__call__": "(self, other)", "__rshift__": "(self, other)",
    }, ("form",)),
    "Filling": ("fillings", "object", "(low, high, makers)", {
        "__call__": "(self, wish, maker)", "__rshift__": "(self, other)", "__getitem__": "(self, at)", "__len__": "(self)",
        "__iter__": "(self)", "__eq__": "(self, other)",
    }, ()),
    "Bench": ("benches", "object", "(book=())", {
        "add_name": "(self, name, kind)", "drop_name": "(self, name)", "set_kind": "(self, name, kind)",
        "let_wish": "(self, wish)", "bar_wish": "(self, wish)", "free_wish": "(self, wish)", "go": "(self, event)",
        "__setitem__": "(self, at, worth)", "__getitem__": "(self, at)", "__contains__": "(self, x)", "__len__": "(self)",
        "__iter__": "(self)", "__eq__": "(self, other)", "verdict_now": "(self, wish)", "verdicts_now": "(self)",
        "alarms": "(self)", "changes": "(self, k)", "cures": "(self)", "barred_by": "(self, event)",
        "tried": "(self, events)", "undo": "(self)", "do_all": "(self, events, *, keep=False)", "__enter__": "(self)",
        "__exit__": "(self, kind, value, trace)", "tally": "(self)", "table": "(self)", "log": "(self)",
    }, ("book_now", "let_now", "barred_now")),
    "Desk": ("desks", "object", "(book)", {"say": "(self, row)", "tally": "(self)"}, ()),
}

CLASS_METHODS = {"Book": {"of": "(*entries)", "read": "(text)"}, "Kind": {"atom": "(name)"},
                 "Maker": {"read": "(book, wish, text)"}}

STATIC_METHODS = {
    "Kind": {"spelled": "(thing)"}, "Filling": {"plain": "(book)"}, "Maker": {"same": "(book, kind)"},
}

CLASS_VALUES = {"Bench": {"MOST": 40}}

SETTERS = {"Builder": ("next_head",)}


def class_called(name):
    return getattr(importlib.import_module("onlygiven." + CLASSES[name][0]), name)


class InterfaceTest(unittest.TestCase):
    def test_functions(self):
        for name, functions in FUNCTIONS.items():
            module = importlib.import_module("onlygiven." + name)
            for function, parameters in functions.items():
                found = getattr(module, function)
                self.assertTrue(inspect.isfunction(found))
                self.assertEqual(found.__module__, "onlygiven." + name)
                self.assertEqual(str(inspect.signature(found)), parameters)

    def test_classes(self):
        for name, (module, base, parameters, _, _) in CLASSES.items():
            found = class_called(name)
            self.assertTrue(inspect.isclass(found))
            self.assertEqual(found.__module__, "onlygiven." + module)
            self.assertEqual([above.__name__ for above in found.__bases__], [base])
            self.assertEqual(str(inspect.signature(found)), parameters)

    def test_methods_stand_in_their_class(self):
        for name, (_, _, _, methods, _) in CLASSES.items():
            for method, parameters in methods.items():
                found = vars(class_called(name))[method]
                self.assertTrue(inspect.isfunction(found))
                self.assertEqual(str(inspect.signature(found)), parameters)

    def test_properties_stand_in_their_class(self):
        for name, (_, _, _, _, properties) in CLASSES.items():
            for told in properties:
                found = vars(class_called(name))[told]
                self.assertIsInstance(found, property)
                self.assertIs(found.fset is not None, told in SETTERS.get(name, ()))

    def test_class_methods(self):
        for name, methods in CLASS_METHODS.items():
            for method, parameters in methods.items():
                self.assertIsInstance(vars(class_called(name))[method], classmethod)
                self.assertEqual(str(inspect.signature(getattr(class_called(name), method))), parameters)

    def test_static_methods(self):
        for name, methods in STATIC_METHODS.items():
            for method, parameters in methods.items():
                self.assertIsInstance(vars(class_called(name))[method], staticmethod)
                self.assertEqual(str(inspect.signature(getattr(class_called(name), method))), parameters)

    def test_class_values(self):
        for name, values in CLASS_VALUES.items():
            for value, number in values.items():
                self.assertEqual(vars(class_called(name))[value], number)


if __name__ == "__main__":
    unittest.main()
