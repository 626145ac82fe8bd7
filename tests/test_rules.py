"""Rules and the shown numbers: document points [20], [21] and [22]."""

import random
import time
import unittest

from tests import helper
from tickcounts.errors import InvalidRule, InvalidShop, InvalidStore, InvalidTicks, InvalidWord, UnknownName
from tickcounts.rules import Rule, board, shown
from tickcounts.shops import Shop
from tickcounts.stores import hits

GOOD = ("keep", "leave", True, "models", False)
FIELDS = ("own", "others", "bears", "counts", "less")
NO_OWN = ["", "Keep", "keeps", "keep ", "drop", "things", "models", True, False, None, 0, ["keep"], ("keep",)]
NO_OTHERS = ["", "Leave", "add", "only", "things", True, False, None, 1, ["keep"], ("leave",)]
NO_COUNTS = ["", "Things", "thing", "model", "keep", "items", True, False, None, 0, ["things"], ("models",)]
NO_BOOLEAN = [0, 1, 2, -1, None, "", "True", "true", "keep", "things", [], [True], (True,), {}]
# For each place what does not fit there.
WRONG = [NO_OWN, NO_OTHERS, NO_BOOLEAN, NO_COUNTS, NO_BOOLEAN]


def with_word(at, word):
    return [*GOOD[:at], word, *GOOD[at + 1:]]


class TestRule(helper.Checks, unittest.TestCase):
    def test_the_fields_of_all_rules(self):
        self.assertEqual(len(helper.every_words()), 64)
        for words in helper.every_words():
            with self.subTest(words=words):
                rule = Rule(*words)
                told = [rule.own, rule.others, rule.bears, rule.counts, rule.less]
                self.assertEqual(told, list(words))
                self.assertEqual([one.__class__ for one in told], [str, str, bool, str, bool])
                self.assertEqual(sorted(vars(rule)), sorted(FIELDS))

    def test_by_name(self):
        self.assertEqual(helper.words_of(Rule(**dict(zip(FIELDS, GOOD)))), GOOD)

    def test_a_bad_word_in_each_place(self):
        for at, wrong in enumerate(WRONG):
            for word in [*wrong, helper.shop(), helper.rule(), 10 ** 999, [[[]]]]:
                with self.subTest(at=at, word=word):
                    self.assert_raised(InvalidWord, word, Rule, *with_word(at, word))

    def test_the_first_of_several_bad_words_is_told(self):
        for first in range(5):
            for second in range(first + 1, 5):
                for word in WRONG[first][:4]:
                    words = with_word(first, word)
                    words[second] = ["bad"]
                    self.assert_raised(InvalidWord, word, Rule, *words)
        bad = [["own"], ["others"], ["bears"], ["counts"], ["less"]]
        for at in range(5):
            self.assert_raised(InvalidWord, bad[at], Rule, *GOOD[:at], *bad[at:])

    def test_words_of_another_place(self):
        self.assert_raised(InvalidWord, "add", Rule, "keep", "add", True, "things", False)
        self.assert_raised(InvalidWord, "only", Rule, "keep", "only", True, "things", False)
        self.assert_raised(InvalidWord, True, Rule, True, "keep", "keep", "things", False)
        self.assert_raised(InvalidWord, "keep", Rule, "keep", "keep", "keep", "things", False)
        self.assert_raised(InvalidWord, 1, Rule, "keep", "keep", 1, "things", False)
        self.assert_raised(InvalidWord, 0, Rule, "keep", "keep", True, "things", 0)
        self.assert_raised(InvalidWord, True, Rule, "keep", "keep", True, True, "things")


class TestEqualRules(unittest.TestCase):
    def test_all_with_all(self):
        rules = [(words, Rule(*words)) for words in helper.every_words()]
        for words, rule in rules:
            for others, other in rules:
                self.assertIs(rule == other, words == others)
                self.assertIs(rule != other, words != others)

    def test_equal_ones_are_unlike_objects(self):
        self.assertIs(Rule(*GOOD) == Rule(*GOOD), True)
        self.assertIs(Rule(*GOOD) != Rule(*GOOD), False)

    def test_alike_but_for_one_word(self):
        for at, word in enumerate(["only", "keep", False, "things", True]):
            with self.subTest(at=at):
                self.assertIs(Rule(*GOOD) == Rule(*with_word(at, word)), False)
                self.assertIs(Rule(*GOOD) != Rule(*with_word(at, word)), True)

    def test_other_objects(self):
        rule = Rule(*GOOD)
        for other in [*helper.wrong_rules(), GOOD, list(GOOD), object()]:
            with self.subTest(other=other):
                self.assertIs(rule == other, False)
                self.assertIs(other == rule, False)
                self.assertIs(rule != other, True)


class TestShown(helper.Checks, unittest.TestCase):
    def assert_board(self, groups, store, ticks, words):
        """The board is as the document says, and shown tells the same of each box."""
        shop, rule = Shop(groups), Rule(*words)
        told = board(shop, store, ticks, rule)
        self.assertEqual(told, helper.plain_board(groups, store, ticks, words))
        for group, numbers in zip(groups, told):
            self.assertEqual([shown(shop, store, ticks, rule, group[0], box) for box in group[3]], numbers)

    def test_example_of_the_document(self):
        shop = Shop([("hue", "or", "many", ["red", "blue"]), ("size", "and", "one", ["s", "m"])])
        store = [("cup", [["red"], ["s"]]), ("cup", [["red", "blue"], ["m"]]), ("jug", [[], ["m"]])]
        plain, other = Rule("leave", "keep", True, "things", False), Rule("add", "keep", False, "models", True)
        told = [
            board(shop, store, [["red"], []], plain), board(shop, store, [["red"], []], other),
            shown(shop, store, [[], ["m"]], plain, "hue", "blue"),
        ]
        self.assertEqual(told, [[[2, 1], [1, 1]], [[0, 0], [0, 0]], 1])

    def test_all_rules_at_all_ticks_of_the_documents_shop(self):
        for words in helper.every_words():
            for ticks in helper.every_ticks(helper.GROUPS):
                self.assert_board(helper.GROUPS, helper.STORE, ticks, words)

    def test_all_rules_at_small_shops(self):
        chance = random.Random(11)
        for groups in helper.small_shops():
            stores, every = list(helper.stores_of(groups, chance)), helper.every_ticks(groups)
            for words in helper.every_words():
                for _ in range(4):
                    self.assert_board(groups, chance.choice(stores), chance.choice(every), words)

    def test_all_ticks_of_small_shops(self):
        chance = random.Random(12)
        for groups in helper.small_shops():
            stores, words = list(helper.stores_of(groups, chance)), helper.every_words()
            for ticks in helper.every_ticks(groups):
                for _ in range(4):
                    self.assert_board(groups, chance.choice(stores), ticks, chance.choice(words))

    def test_four_groups_of_up_to_five_boxes(self):
        chance = random.Random(13)
        kinds = [("or", "one"), ("and", "many"), ("or", "many"), ("and", "one")]
        for many in (1, 2, 3, 5):
            groups = [(name, *kind, list("vwxyz")[:many]) for name, kind in zip("abcd", kinds)]
            rows = [helper.subsets(group[3]) for group in groups]
            for words in helper.every_words():
                store = [
                    (chance.choice("pqr"), [
                        chance.choice(some) if group[2] == "many" else [chance.choice(group[3])]
                        for group, some in zip(groups, rows)
                    ])
                    for _ in range(8)
                ]
                self.assert_board(groups, store, [chance.choice(some) for some in rows], words)

    def test_each_word_of_own_in_a_group_with_or(self):
        groups = [("a", "or", "many", ["x", "y", "z"])]
        store = [("p", [["x"]]), ("q", [["x", "y"]]), ("r", [["y"]]), ("s", [[]])]
        wanted = {"keep": [2, 2, 2], "leave": [4, 4, 4], "add": [2, 3, 2], "only": [2, 2, 0]}
        for own, numbers in wanted.items():
            rule = Rule(own, "keep", False, "things", False)
            self.assertEqual(board(Shop(groups), store, [["x"]], rule), [numbers])
        wanted = {"keep": [2, 1, 0], "leave": [2, 2, 0], "add": [2, 2, 0], "only": [2, 2, 0]}
        for own, numbers in wanted.items():
            rule = Rule(own, "keep", True, "things", False)
            self.assertEqual(board(Shop(groups), store, [["x"]], rule), [numbers])

    def test_each_word_of_own_in_a_group_with_and(self):
        groups = [("a", "and", "many", ["x", "y", "z"])]
        store = [("p", [["x"]]), ("q", [["x", "y"]]), ("r", [["y"]]), ("s", [[]])]
        wanted = {"keep": [2, 2, 2], "leave": [4, 4, 4], "add": [2, 1, 0], "only": [2, 2, 0]}
        for own, numbers in wanted.items():
            rule = Rule(own, "keep", False, "things", False)
            self.assertEqual(board(Shop(groups), store, [["x"]], rule), [numbers])
        wanted = {"keep": [2, 1, 0], "leave": [2, 2, 0], "add": [2, 1, 0], "only": [2, 2, 0]}
        for own, numbers in wanted.items():
            rule = Rule(own, "keep", True, "things", False)
            self.assertEqual(board(Shop(groups), store, [["x"]], rule), [numbers])

    def test_others(self):
        shop, store, ticks = helper.shop(), helper.store(), [["blue"], ["s"]]
        self.assertEqual(board(shop, store, ticks, Rule("leave", "keep", True, "things", False)), [[1, 0], [0, 1]])
        self.assertEqual(board(shop, store, ticks, Rule("leave", "leave", True, "things", False)), [[2, 1], [1, 2]])
        self.assertEqual(board(shop, store, ticks, Rule("keep", "leave", False, "things", False)), [[1, 1], [1, 1]])
        self.assertEqual(board(shop, store, ticks, Rule("keep", "keep", False, "things", False)), [[0, 0], [0, 0]])

    def test_models_that_occur_more_than_once(self):
        shop, thing, other = helper.shop(), [["red"], ["s"]], [["blue"], ["m"]]
        store = [("cup", thing), ("cup", thing), ("cup", other), ("jug", thing)]
        plain, by_models = Rule("leave", "keep", True, "things", False), Rule("leave", "keep", True, "models", False)
        self.assertEqual(board(shop, store, [[], []], plain), [[3, 1], [3, 1]])
        self.assertEqual(board(shop, store, [[], []], by_models), [[2, 1], [2, 1]])

    def test_less_and_numbers_below_0(self):
        shop, thing = helper.shop(), [["red"], ["s"]]
        store = [("cup", thing), ("cup", thing), ("jug", thing), ("jug", [["blue"], ["s"]])]
        things, by_models = Rule("only", "keep", True, "things", True), Rule("only", "keep", True, "models", True)
        self.assertEqual(board(shop, store, [["red"], []], things), [[0, -2], [0, -3]])
        self.assertEqual(board(shop, store, [["red"], []], by_models), [[0, -1], [0, -2]])
        self.assertEqual(board(shop, store, [[], []], by_models), [[0, -1], [0, -2]])
        gain = Rule("add", "keep", False, "things", True)
        self.assertEqual(board(shop, store, [["red"], []], gain), [[0, 1], [0, -3]])

    def test_ticked_and_unticked_boxes(self):
        shop, store = helper.shop(), helper.store()
        add = Rule("add", "keep", False, "things", False)
        self.assertEqual(board(shop, store, [["red"], []], add), [[2, 2], [1, 1]])
        self.assertEqual(board(shop, store, [["red", "blue"], ["s"]], add), [[1, 1], [1, 0]])
        # What is shown beside a ticked box is then what is found.
        self.assertEqual(hits(shop, store, [["red", "blue"], ["s"]]), [0])

    def test_empty_store(self):
        for words in helper.every_words():
            for ticks in helper.every_ticks(helper.GROUPS):
                self.assertEqual(board(helper.shop(), [], ticks, Rule(*words)), [[0, 0], [0, 0]])
                self.assertEqual(shown(helper.shop(), [], ticks, Rule(*words), "size", "m"), 0)

    def test_the_same_box_name_in_two_groups(self):
        groups = [("a", "or", "many", ["x", "y"]), ("b", "and", "many", ["y", "x"])]
        store = [("p", [["x"], []]), ("q", [["x"], ["x"]]), ("r", [[], ["y", "x"]])]
        for words in helper.every_words():
            self.assert_board(groups, store, [["x"], ["y"]], words)
        rule = Rule("leave", "leave", True, "things", False)
        self.assertEqual(shown(Shop(groups), store, [[], []], rule, "a", "y"), 0)
        self.assertEqual(shown(Shop(groups), store, [[], []], rule, "b", "y"), 1)

    def test_kinds_of_what_is_told(self):
        told = board(helper.shop(), helper.store(), [[], []], helper.rule())
        self.assertIs(told.__class__, list)
        for row in told:
            self.assertIs(row.__class__, list)
            self.assertEqual([number.__class__ for number in row], [int, int])
        self.assertIs(shown(helper.shop(), helper.store(), [[], []], helper.rule(), "hue", "red").__class__, int)

    def test_by_name(self):
        given = {"shop": helper.shop(), "store": helper.store(), "ticks": [["red"], []], "rule": helper.rule()}
        self.assertEqual(board(**given), [[2, 1], [1, 1]])
        self.assertEqual(shown(**given, group="hue", box="blue"), 1)

    def test_arguments_stay_and_answers_are_free(self):
        for words in (GOOD, ("add", "keep", False, "things", True)):
            shop, store, ticks, rule = helper.shop(), helper.store(), [["red"], ["m"]], Rule(*words)
            self.assert_free(board, shop, store, ticks, rule)
            self.assert_free(shown, shop, store, ticks, rule, "hue", "red")
            self.assertEqual((shop, rule), (helper.shop(), Rule(*words)))

    def test_the_most_things_within_seconds(self):
        many = [("a", "or", "many", list("abcde")), ("b", "and", "many", list("abcde"))]
        groups = [*many, ("c", "or", "one", ["x", "y"]), ("d", "and", "one", ["x", "y"])]
        things, chance = helper.every_thing(groups), random.Random(5)
        store = [(chance.choice(["p", "q", "abcdefgh"]), chance.choice(things)) for _ in range(200)]
        ticks = [list("abd"), ["b"], ["x"], []]
        began = time.monotonic()
        for words in helper.every_words():
            board(Shop(groups), store, ticks, Rule(*words))
        self.assertLess(time.monotonic() - began, 5)
        for words in helper.every_words()[::9]:
            self.assert_board(groups, store, ticks, words)


class TestWrongArguments(helper.Checks, unittest.TestCase):
    def test_wrong_shops(self):
        for value in helper.wrong_shops():
            with self.subTest(value=value):
                self.assert_raised(InvalidShop, value, board, value, [], [[], []], helper.rule())
                self.assert_raised(InvalidShop, value, shown, value, [], [[], []], helper.rule(), "hue", "red")

    def test_wrong_stores(self):
        wrong = [("cup", [["red"], ["s"]]), [("cup", [["red"], []])], [None], [["cup", [["red"], ["s"]]]]]
        for value in [*helper.odd_values(), *wrong, helper.shop()]:
            with self.subTest(value=value):
                self.assert_raised(InvalidStore, value, board, helper.shop(), value, [[], []], helper.rule())
                self.assert_raised(
                    InvalidStore, value, shown, helper.shop(), value, [[], []], helper.rule(), "hue", "red")

    def test_wrong_ticks(self):
        wrong = [[], [[]], [["blue", "red"], []], [["s"], ["red"]], ([], []), [["red"], None], helper.store()]
        for value in [*helper.odd_values(), *wrong, helper.shop()]:
            with self.subTest(value=value):
                self.assert_raised(InvalidTicks, value, board, helper.shop(), [], value, helper.rule())
                self.assert_raised(InvalidTicks, value, shown, helper.shop(), [], value, helper.rule(), "hue", "red")

    def test_wrong_rules(self):
        for value in helper.wrong_rules():
            with self.subTest(value=value):
                self.assert_raised(InvalidRule, value, board, helper.shop(), helper.store(), [[], []], value)
                self.assert_raised(InvalidRule, value, shown, helper.shop(), [], [[], []], value, "hue", "red")

    def test_unknown_groups_and_boxes(self):
        given = (helper.shop(), helper.store(), [["red"], []], helper.rule())
        for value in [*helper.odd_values(), "red", "s", "Hue", ["hue"], ("hue",), helper.GROUPS[0], helper.shop()]:
            with self.subTest(value=value):
                self.assert_raised(UnknownName, value, shown, *given, value, "red", field="name")
                self.assert_raised(UnknownName, value, shown, *given, value, None, field="name")
        for value in [*helper.odd_values(), "s", "hue", "Red", ["red"], ("red",), helper.shop()]:
            with self.subTest(value=value):
                self.assert_raised(UnknownName, value, shown, *given, "hue", value, field="name")
        self.assert_raised(UnknownName, "red", shown, *given, "size", "red", field="name")

    def test_order_of_the_errors(self):
        good = [helper.shop(), helper.store(), [["red"], []], helper.rule(), "hue", "red"]
        kinds = [InvalidShop, InvalidStore, InvalidTicks, InvalidRule, UnknownName, UnknownName]
        for bad in helper.odd_values()[:8]:
            for at, kind in enumerate(kinds):
                for later in range(at, 6):
                    given = [*good[:at], bad, *good[at + 1:]]
                    given[later] = bad
                    field = "name" if kind is UnknownName else "value"
                    self.assert_raised(kind, bad, shown, *given, field=field)
                    if at < 4:
                        self.assert_raised(kind, bad, board, *given[:4])
        values = [["shop"], ["store"], ["ticks"], ["rule"], ["group"], ["box"]]
        for at, kind in enumerate(kinds):
            field = "name" if kind is UnknownName else "value"
            self.assert_raised(kind, values[at], shown, *good[:at], *values[at:], field=field)


if __name__ == "__main__":
    unittest.main()
