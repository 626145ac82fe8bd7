"""Names, arguments and places of the interface: document points [1] and [2]."""

import inspect
import unittest

from tickcounts import errors, live, promises, rules, shops, stores

FUNCTIONS = {
    shops: {
        "is_thing": ["shop", "value"], "is_ticks": ["shop", "value"], "all_things": ["shop"],
        "met": ["shop", "thing", "ticks"], "meets": ["shop", "thing", "ticks"],
    },
    stores: {
        "is_store": ["shop", "value"], "hits": ["shop", "store", "ticks"], "models": ["shop", "store", "ticks"],
        "dead": ["shop", "store", "ticks"], "idle": ["shop", "store", "ticks"],
    },
    rules: {
        "shown": ["shop", "store", "ticks", "rule", "group", "box"], "board": ["shop", "store", "ticks", "rule"],
    },
    promises: {
        "unlike": ["shop", "rule", "other"], "click_right": ["shop", "rule"], "nought_right": ["shop", "rule"],
        "falling": ["shop", "rule"], "sum_right": ["shop", "rule", "group"], "same_order": ["shop", "rule", "other"],
    },
}
METHODS = {
    shops.Shop: {
        "__init__": ["self", "groups"], "groups": ["self"], "names": ["self"], "boxes": ["self", "group"],
        "__eq__": ["self", "other"],
    },
    rules.Rule: {
        "__init__": ["self", "own", "others", "bears", "counts", "less"], "__eq__": ["self", "other"],
    },
    live.Live: {
        "__init__": ["self", "shop"], "put": ["self", "model", "thing"], "take": ["self", "model", "thing"],
        "tick": ["self", "group", "box"], "clear": ["self"], "store": ["self"], "ticks": ["self"], "hits": ["self"],
        "board": ["self", "rule"], "back": ["self"], "log": ["self"], "copy": ["self"], "__len__": ["self"],
        "__eq__": ["self", "other"],
    },
}
MODULES = {shops.Shop: shops, rules.Rule: rules, live.Live: live}


class TestInterface(unittest.TestCase):
    def test_functions(self):
        for module, functions in FUNCTIONS.items():
            for name, parameters in functions.items():
                with self.subTest(name=name):
                    function = getattr(module, name)
                    self.assertTrue(inspect.isfunction(function))
                    self.assertEqual(function.__module__, module.__name__)
                    self.assertEqual(list(inspect.signature(function).parameters), parameters)

    def test_classes_and_their_methods(self):
        for kind, methods in METHODS.items():
            for name, parameters in methods.items():
                with self.subTest(kind=kind, name=name):
                    self.assertIn(name, vars(kind))
                    self.assertEqual(list(inspect.signature(vars(kind)[name]).parameters), parameters)
            self.assertEqual(kind.__module__, MODULES[kind].__name__)

    def test_parameters_of_the_errors(self):
        named = {"InvalidName", "TakenName", "UnknownName"}
        for name, kind in inspect.getmembers(errors, inspect.isclass):
            if name not in ("TickError", "NothingToUndo"):
                field = "name" if name in named else "value"
                self.assertEqual(list(inspect.signature(kind).parameters), [field])


if __name__ == "__main__":
    unittest.main()
