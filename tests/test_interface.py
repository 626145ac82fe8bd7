"""Names, arguments and places of the interface, and what holds for all of it: document points [1], [2] and [3]."""

import copy
import inspect
import time
import unittest

from tests import helper
from tests.test_follows import ALL_OF, BLUE, BOTH, EITHER, ONLY_RED
from tests.test_questions import RED
from tickcounts import errors, library, live, promises, ranges, rules, shops, spans, stores, texts

FUNCTIONS = {
    shops: {
        "is_thing": ["shop", "value"], "is_ticks": ["shop", "value"], "all_things": ["shop"],
        "met": ["shop", "thing", "ticks"], "meets": ["shop", "thing", "ticks"],
    },
    stores: {
        "is_store": ["shop", "value"], "hits": ["shop", "store", "ticks"], "models": ["shop", "store", "ticks"],
        "dead": ["shop", "store", "ticks"], "idle": ["shop", "store", "ticks"],
    },
    rules: {
        "shown": ["shop", "store", "ticks", "rule", "group", "box"], "board": ["shop", "store", "ticks", "rule"],
    },
    promises: {
        "unlike": ["shop", "rule", "other"], "click_right": ["shop", "rule"], "nought_right": ["shop", "rule"],
        "falling": ["shop", "rule"], "sum_right": ["shop", "rule", "group"], "same_order": ["shop", "rule", "other"],
    },
    texts: {"text_of": ["shop"], "read_shop": ["text"]},
    spans: {
        "is_question": ["shop", "value"], "count_of": ["shop", "store", "question"],
        "question_of": ["shop", "ticks", "rule", "group", "box"], "parting": ["shop", "question", "other"],
        "follows": ["shop", "questions", "wanted"], "is_answer": ["shop", "questions", "wanted", "value"],
        "fewest": ["shop", "questions", "prices"],
    },
    ranges: {
        "bounds": ["shop", "questions", "numbers", "wanted"],
        "bound_stores": ["shop", "questions", "numbers", "wanted"],
    },
}
METHODS = {
    shops.Shop: {
        "__init__": ["self", "groups"], "groups": ["self"], "names": ["self"], "boxes": ["self", "group"],
        "__eq__": ["self", "other"],
    },
    rules.Rule: {
        "__init__": ["self", "own", "others", "bears", "counts", "less"], "__eq__": ["self", "other"],
    },
    live.Live: {
        "__init__": ["self", "shop"], "put": ["self", "model", "thing"], "take": ["self", "model", "thing"],
        "tick": ["self", "group", "box"], "clear": ["self"], "store": ["self"], "ticks": ["self"], "hits": ["self"],
        "board": ["self", "rule"], "back": ["self"], "log": ["self"], "copy": ["self"], "__len__": ["self"],
        "__eq__": ["self", "other"],
    },
    library.Library: {
        "__init__": ["self", "shop"], "put": ["self", "name", "question"], "drop": ["self", "name"],
        "change": ["self", "name", "question"], "question_of": ["self", "name"], "names": ["self"],
        "numbers": ["self", "store"], "needed": ["self"], "alike": ["self", "question"], "back": ["self"],
        "log": ["self"], "copy": ["self"], "__len__": ["self"], "__contains__": ["self", "name"],
        "__iter__": ["self"], "__eq__": ["self", "other"],
    },
}
MODULES = {shops.Shop: shops, rules.Rule: rules, live.Live: live, library.Library: library}


def given(name):
    """What the functions and methods are passed for a parameter of this name; each call has lists of its own."""
    return copy.deepcopy({
        "shop": helper.shop(), "groups": helper.GROUPS, "thing": [["red"], ["s"]], "ticks": [["red"], []],
        "store": helper.STORE, "rule": helper.rule(), "group": "hue", "box": "blue", "model": "cup",
        "text": "hue or many: red blue / size and one: s m", "question": RED, "questions": [ONLY_RED, BLUE, EITHER],
        "wanted": BOTH, "prices": [2, 1, 1], "numbers": [3, 2, 4], "name": "reds",
        "own": "add", "others": "keep", "bears": False, "counts": "things", "less": True,
    }[name])


def values(name, parameters):
    """What a function or a method of this name is passed, in the order of its parameters."""
    told = {parameter: given(parameter) for parameter in parameters if parameter not in ("self", "value", "other")}
    if "value" in parameters:
        told["value"] = {
            "is_thing": [["red"], ["s"]], "is_ticks": [["red"], []], "is_store": helper.store(), "is_question": RED,
            "is_answer": ("sum", [(1, 1), (1, 1), (-1, 1)]),
        }[name]
    if "other" in parameters:
        told["other"] = copy.deepcopy(BLUE) if name == "parting" else rules.Rule("keep", "keep", True, "models", False)
    return {parameter: told[parameter] for parameter in parameters if parameter != "self"}


def made(kind):
    """An object of a class of the interface, behind some deeds or steps."""
    if kind is live.Live:
        told = live.Live(helper.shop())
        told.put("cup", [["red"], ["s"]])
        told.put("cup", [["red"], ["s"]])
        told.tick("hue", "red")
        return told
    if kind is library.Library:
        told = library.Library(helper.shop())
        told.put("blues", copy.deepcopy(RED))
        told.put("reds", copy.deepcopy(RED))
        return told
    return kind(*values("__init__", METHODS[kind]["__init__"]).values())


class TestInterface(unittest.TestCase):
    def test_functions(self):
        for module, functions in FUNCTIONS.items():
            for name, parameters in functions.items():
                with self.subTest(name=name):
                    function = getattr(module, name)
                    self.assertTrue(inspect.isfunction(function))
                    self.assertEqual(function.__module__, module.__name__)
                    self.assertEqual(list(inspect.signature(function).parameters), parameters)

    def test_classes_and_their_methods(self):
        for kind, methods in METHODS.items():
            for name, parameters in methods.items():
                with self.subTest(kind=kind, name=name):
                    self.assertIn(name, vars(kind))
                    self.assertEqual(list(inspect.signature(vars(kind)[name]).parameters), parameters)
            self.assertEqual(kind.__module__, MODULES[kind].__name__)

    def test_parameters_of_the_errors(self):
        named = {"InvalidName", "TakenName", "UnknownName"}
        for name, kind in inspect.getmembers(errors, inspect.isclass):
            if name not in ("TickError", "NothingToUndo"):
                field = "name" if name in named else "value"
                self.assertEqual(list(inspect.signature(kind).parameters), [field])


class TestCalls(helper.Checks, unittest.TestCase):
    def test_functions_by_name_and_by_position(self):
        for module, functions in FUNCTIONS.items():
            for name, parameters in functions.items():
                with self.subTest(name=name):
                    function, passed = getattr(module, name), values(name, parameters)
                    told = function(**passed)
                    self.assertEqual(told, function(*passed.values()))
                    turned = dict(reversed(list(values(name, parameters).items())))
                    self.assertEqual(told, function(**turned))

    def test_classes_and_methods_by_name_and_by_position(self):
        for kind, methods in METHODS.items():
            for name, parameters in methods.items():
                with self.subTest(kind=kind, name=name):
                    passed = {"name": "tan"} if (kind, name) == (library.Library, "put") else {}
                    passed = {**values("" if name == "__eq__" else name, parameters), **passed}
                    if name == "__init__":
                        self.assertEqual(kind(**passed), kind(*passed.values()))
                    elif not name.startswith("__"):
                        one, other = made(kind), made(kind)
                        self.assertEqual(getattr(one, name)(**passed), getattr(other, name)(*passed.values()))
                        self.assertEqual(one, other)

    def test_arguments_stay_and_answers_are_free(self):
        """Also that no list stands twice in what is told, and that none of it is a list of an argument."""
        for module, functions in FUNCTIONS.items():
            for name, parameters in functions.items():
                with self.subTest(name=name):
                    self.assert_free(getattr(module, name), *values(name, parameters).values())
        for call, *more in (
            (spans.follows, [ALL_OF, ONLY_RED], BLUE), (spans.follows, [RED, RED], RED), (spans.follows, [], BLUE),
            (ranges.bound_stores, [BLUE], [3], BOTH), (ranges.bound_stores, [BLUE], [3], ALL_OF),
            (ranges.bound_stores, [ALL_OF, BLUE], [7, 5], BOTH), (spans.fewest, [BLUE, BLUE], [1, 0]),
            (spans.parting, ALL_OF, BLUE), (spans.question_of, [["red"], ["s"]], helper.rule(), "size", "m"),
        ):
            self.assert_free(call, helper.shop(), *copy.deepcopy(more))

    def test_equal_calls_tell_equal_answers(self):
        for module, functions in FUNCTIONS.items():
            for name, parameters in functions.items():
                function = getattr(module, name)
                told = [function(*values(name, parameters).values()) for _ in range(2)]
                self.assertEqual(told[0], told[1])

    def test_a_list_that_stands_twice_in_an_argument(self):
        shop, row = helper.shop(), []
        self.assert_own(spans.question_of(shop, [row, row], helper.rule(), "hue", "red"), [row])
        question = ([row, row], [row, row])
        told = spans.follows(shop, [question, question], question)
        self.assert_own(told, question)
        self.assert_own(ranges.bound_stores(shop, [question], [4], question), question)
        self.assertEqual(row, [])


class TestLongStores(unittest.TestCase):
    def test_stores_of_57_in_all_functions_within_seconds(self):
        """What [57] tells may have some thousand items, and may be passed to each function that takes a store."""
        groups = [(name, mode, "many", list("zyx")) for name, mode in zip("abcd", ("or", "and", "or", "and"))]
        shop, none = shops.Shop(groups), [[], [], [], []]
        ticks = [["z"], ["y"], ["z", "x"], []]
        store = ranges.bound_stores(shop, [(none, none)], [2999], (ticks, none))[1]
        self.assertEqual(len(store), 2999)
        began = time.monotonic()
        self.assertIs(stores.is_store(shop, store), True)
        self.assertEqual(stores.hits(shop, store, ticks), list(range(2999)))
        self.assertEqual(len(stores.models(shop, store, ticks)), 1)
        stores.dead(shop, store, ticks)
        stores.idle(shop, store, ticks)
        for words in helper.every_words()[::7]:
            board = rules.board(shop, store, ticks, rules.Rule(*words))
            self.assertEqual(rules.shown(shop, store, ticks, rules.Rule(*words), "c", "y"), board[2][1])
        self.assertEqual(spans.count_of(shop, store, (ticks, none)), 2999)
        kept = library.Library(shop)
        for name in "abcdefghijkl":
            kept.put(name, (ticks, none))
        self.assertEqual(kept.numbers(store), [(name, 2999) for name in "abcdefghijkl"])
        self.assertIs(spans.is_answer(shop, [], (ticks, none), ("apart", store, [])), False)
        self.assertLess(time.monotonic() - began, 5)


if __name__ == "__main__":
    unittest.main()
