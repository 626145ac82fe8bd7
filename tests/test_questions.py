"""Questions, their numbers, and the things that part two of them: document points [50] and [51]."""

import itertools
import random
import time
import unittest

from tests import asked, helper
from tickcounts.errors import InvalidItem, InvalidRule, InvalidShop, InvalidStore, InvalidTicks, UnknownName
from tickcounts.rules import Rule, shown
from tickcounts.shops import Shop, all_things
from tickcounts.spans import count_of, is_question, parting, question_of

RED = ([["red"], []], [[], ["s"]])
NO_TICKS = [
    [], [[]], [[], [], []], [["blue", "red"], []], [["red", "red"], []], [["tan"], []], [["s"], ["red"]], [[], ["l"]],
    [("red",), []], ([], []), [[], None], [[None], []], [[True], []], {}, "red", None, 0, True, helper.STORE,
]
WIDE = [("a", "or", "many", list("vwxyz")), ("b", "and", "many", list("zyxwv")), ("c", "or", "one", list("abcd"))]
DEEP = [(name, mode, "many", list("zyx")) for name, mode in zip("abcd", ("or", "and", "or", "and"))]


def no_questions():
    """Values that are no question of the document's shop, most of them alike one but for a part."""
    told = [list(RED), RED[:1], (*RED, []), (*RED, RED[1]), RED[0], (RED,), {0: RED[0], 1: RED[1]}, str(RED)]
    for wrong in [*NO_TICKS, *helper.odd_values(), helper.shop()]:
        told.extend([(wrong, RED[1]), (RED[0], wrong)])
    return [*told, *helper.odd_values(), helper.shop()]


class TestIsQuestion(helper.Checks, unittest.TestCase):
    def test_all_of_small_shops(self):
        for groups in helper.small_shops():
            if len(groups) < 3:
                for question in asked.every_question(groups):
                    self.assertIs(is_question(Shop(groups), question), True)

    def test_what_is_none(self):
        for value in no_questions():
            with self.subTest(value=value):
                self.assertIs(is_question(helper.shop(), value), False)

    def test_two_boxes_of_a_group_with_one_may_be_borne(self):
        self.assertIs(is_question(helper.shop(), ([[], ["s", "m"]], [["red", "blue"], ["s", "m"]])), True)
        self.assertIs(is_question(helper.shop(), ([[], ["m", "s"]], [[], []])), False)
        self.assertIs(is_question(helper.shop(), ([[], []], [[], ["m", "s"]])), False)

    def test_told_for_the_shop_that_is_passed(self):
        other = Shop([("hue", "or", "many", ["red", "blue", "tan"]), ("size", "and", "one", ["s", "m"])])
        self.assertIs(is_question(other, RED), True)
        self.assertIs(is_question(other, ([["tan"], []], [[], []])), True)
        self.assertIs(is_question(Shop(helper.GROUPS[:1]), RED), False)

    def test_wrong_shops(self):
        for value in helper.wrong_shops():
            self.assert_raised(InvalidShop, value, is_question, value, RED)
            self.assert_raised(InvalidShop, value, is_question, value, None)


class TestCountOf(helper.Checks, unittest.TestCase):
    def test_by_hand(self):
        shop, store, none = helper.shop(), helper.store(), [[], []]
        for question, number in (
            ((none, none), 3), (([["red"], []], none), 2), (([["red", "blue"], []], none), 2),
            ((none, [["red", "blue"], []]), 1), ((none, [[], ["m"]]), 2), (([[], ["m"]], [["blue"], []]), 1),
            (([[], ["s", "m"]], none), 0), ((none, [[], ["s", "m"]]), 0), (([["blue"], ["s"]], none), 0),
            (([["blue"], []], [["red"], ["m"]]), 1),
        ):
            with self.subTest(question=question):
                self.assertEqual(count_of(shop, store, question), number)
                self.assertIs(count_of(shop, store, question).__class__, int)
                self.assertEqual(count_of(shop, [], question), 0)

    def test_small_shops_against_the_plain_words(self):
        chance = random.Random(50)
        for groups in helper.small_shops():
            shop, stores = Shop(groups), list(helper.stores_of(groups, chance))
            for question in asked.every_question(groups):
                store = chance.choice(stores)
                self.assertEqual(count_of(shop, store, question), asked.number(groups, store, question))

    def test_many_items_of_wide_shops(self):
        chance = random.Random(51)
        for groups in (WIDE, DEEP):
            things = helper.every_thing(groups)
            for many in (1, 5, 50, 200):
                store = [(chance.choice("pq"), chance.choice(things)) for _ in range(many)]
                for question in asked.questions(groups, chance, 10):
                    self.assertEqual(count_of(Shop(groups), store, question), asked.number(groups, store, question))

    def test_wrong_arguments_in_order(self):
        shop, store = helper.shop(), helper.store()
        for value in helper.wrong_shops():
            self.assert_raised(InvalidShop, value, count_of, value, store, RED)
        for value in [*helper.odd_values(), [None], [("cup", [["red"], []])], helper.shop(), tuple(store)]:
            self.assert_raised(InvalidStore, value, count_of, shop, value, RED)
            self.assert_raised(InvalidStore, value, count_of, shop, value, None)
        for value in no_questions():
            self.assert_raised(InvalidItem, value, count_of, shop, store, value)
            self.assert_raised(InvalidShop, None, count_of, None, store, value)
        self.assert_raised(InvalidShop, "no", count_of, "no", None, None)


class TestQuestionOf(helper.Checks, unittest.TestCase):
    def assert_asked(self, groups, ticks, words, at, box):
        told = question_of(Shop(groups), ticks, Rule(*words), groups[at][0], box)
        plain = helper.plain_ticks(ticks, words, at, box)
        borne = asked.nothing(groups)
        borne[at] = [box] if words[2] else []
        self.assertEqual(told, ([[one for one in group[3] if one in row] for group, row in zip(groups, plain)], borne))
        self.assertIs(told.__class__, tuple)
        self.assertIs(is_question(Shop(groups), told), True)
        return told

    def test_all_rules_at_small_shops(self):
        for groups in helper.small_shops():
            for words in helper.every_words():
                if words[3:] == ("things", False):
                    for ticks in helper.every_ticks(groups):
                        for at, group in enumerate(groups):
                            for box in group[3]:
                                self.assert_asked(groups, ticks, words, at, box)

    def test_counts_and_less_make_no_difference(self):
        for words in helper.every_words():
            for ticks in helper.every_ticks(helper.GROUPS):
                told = self.assert_asked(helper.GROUPS, ticks, words, 0, "blue")
                self.assertEqual(told, self.assert_asked(helper.GROUPS, ticks, (*words[:3], "models", True), 0, "blue"))

    def test_by_hand(self):
        groups, ticks = [("a", "and", "one", list("xyz")), ("b", "or", "many", list("zyx"))], [["x", "z"], ["y"]]
        for own, row in (("keep", ["x", "z"]), ("leave", []), ("add", ["x", "y", "z"]), ("only", ["y"])):
            for bears, borne in ((True, [["y"], []]), (False, [[], []])):
                for others, other in (("keep", ["y"]), ("leave", [])):
                    told = question_of(Shop(groups), ticks, Rule(own, others, bears, "models", True), "a", "y")
                    self.assertEqual(told, ([row, other], borne))

    def test_the_number_is_the_shown_one(self):
        chance = random.Random(52)
        for groups in helper.small_shops():
            shop, stores = Shop(groups), list(helper.stores_of(groups, chance))
            for words in helper.every_words():
                ticks, at = chance.choice(helper.every_ticks(groups)), chance.randrange(len(groups))
                store, box, group = chance.choice(stores), chance.choice(groups[at][3]), groups[at][0]
                number = count_of(shop, store, question_of(shop, ticks, Rule(*words), group, box))
                self.assertEqual(number, shown(shop, store, ticks, Rule(*words[:3], "things", False), group, box))

    def test_wrong_arguments_in_order(self):
        good = [helper.shop(), [["red"], []], helper.rule(), "hue", "red"]
        kinds = [InvalidShop, InvalidTicks, InvalidRule, UnknownName, UnknownName]
        wrong = [
            helper.wrong_shops(), [*NO_TICKS, *helper.odd_values(), helper.shop(), RED], helper.wrong_rules(),
            [*helper.odd_values(), "red", ["hue"], ("hue",), helper.shop()],
            [*helper.odd_values(), "s", "hue", ["red"], ("red",), helper.shop()],
        ]
        for at, kind in enumerate(kinds):
            field = "name" if kind is UnknownName else "value"
            for value in wrong[at]:
                self.assert_raised(kind, value, question_of, *good[:at], value, *good[at + 1:], field=field)
                later = [["wrong"] for _ in good[at + 1:]]
                self.assert_raised(kind, value, question_of, *good[:at], value, *later, field=field)
        self.assert_raised(UnknownName, "red", question_of, *good[:3], "size", "red", field="name")


class TestParting(helper.Checks, unittest.TestCase):
    def assert_parted(self, groups, question, other):
        """What parting tells is what a walk through all things tells."""
        shop = Shop(groups)
        parted = [
            thing for thing in all_things(shop)
            if asked.counts(groups, question, thing) != asked.counts(groups, other, thing)
        ]
        told = parting(shop, question, other)
        self.assertEqual(told, parted[0] if parted else None)
        return told

    def test_all_pairs_at_the_documents_shop(self):
        none = 0
        for question, other in itertools.product(asked.every_question(helper.GROUPS), repeat=2):
            none += self.assert_parted(helper.GROUPS, question, other) is None
        self.assertGreater(none, 256)

    def test_pairs_at_small_shops(self):
        chance = random.Random(53)
        for groups in helper.small_shops():
            every = asked.every_question(groups)
            for question in every:
                self.assertIsNone(self.assert_parted(groups, question, question))
                self.assert_parted(groups, question, chance.choice(every))

    def test_wide_shops(self):
        chance = random.Random(54)
        for groups in (WIDE, DEEP):
            for odds in ((0.1, 0.05), (0.35, 0.15), (0.2, 0)):
                for question, other in zip(*[asked.questions(groups, chance, 2, *odds) for _ in range(2)]):
                    self.assert_parted(groups, question, other)
                    self.assert_parted(groups, question, (question[0], other[1]))

    def test_unlike_questions_that_count_the_same(self):
        none = [[], []]
        for question, other in (
            (([[], ["s"]], none), (none, [[], ["s"]])), (([["red"], []], none), (none, [["red"], []])),
            (([[], ["s", "m"]], none), (none, [[], ["s", "m"]])),
            ((none, [["red"], ["s", "m"]]), ([["blue"], ["s", "m"]], none)),
            (([["red", "blue"], []], [["red"], []]), (none, [["red"], []])),
        ):
            self.assertIsNone(self.assert_parted(helper.GROUPS, question, other))

    def test_the_first_in_order_goes_by_the_names(self):
        groups = [("a", "or", "many", ["z", "y"]), ("b", "or", "one", ["x", "w"])]
        every, no_y = ([[], []], [[], []]), ([["y"], []], [[], []])
        self.assertEqual(parting(Shop(groups), every, no_y), [[], ["w"]])
        self.assertEqual(parting(Shop(groups), ([["z"], []], [[], []]), ([["y"], []], [[], []])), [["y"], ["w"]])
        self.assertEqual(parting(Shop(groups), ([["z", "y"], []], [[], []]), no_y), [["z"], ["w"]])

    def test_what_is_told_can_be_counted(self):
        shop, other = helper.shop(), ([[], ["m"]], [["blue"], []])
        thing = parting(shop, RED, other)
        store = [("cup", thing)]
        self.assertEqual({count_of(shop, store, RED), count_of(shop, store, other)}, {0, 1})

    def test_bracket_behind_51(self):
        """How many items are equal to a thing follows from the questions with nothing ticked."""
        chance = random.Random(55)
        for groups in helper.small_shops():
            shop, things = Shop(groups), helper.every_thing(groups)
            store = [("p", chance.choice(things)) for _ in range(12)]
            for thing in things:
                total = 0
                for borne in helper.every_ticks(groups):
                    if all(set(row) <= set(more) for row, more in zip(thing, borne)):
                        added = sum(map(len, borne)) - sum(map(len, thing))
                        total += (-1) ** added * count_of(shop, store, (asked.nothing(groups), borne))
                self.assertEqual(total, store.count(("p", thing)))

    def test_wrong_arguments_in_order(self):
        shop = helper.shop()
        for value in helper.wrong_shops():
            self.assert_raised(InvalidShop, value, parting, value, RED, RED)
            self.assert_raised(InvalidShop, value, parting, value, None, None)
        for value in no_questions():
            self.assert_raised(InvalidItem, value, parting, shop, value, RED)
            self.assert_raised(InvalidItem, value, parting, shop, RED, value)
            self.assert_raised(InvalidItem, value, parting, shop, value, ["no question"])

    def test_the_largest_shops_within_seconds(self):
        chance = random.Random(56)
        began = time.monotonic()
        for groups in (WIDE, DEEP):
            shop = Shop(groups)
            for question, other in zip(*[asked.questions(groups, chance, 50) for _ in range(2)]):
                parting(shop, question, other)
        self.assertLess(time.monotonic() - began, 5)


if __name__ == "__main__":
    unittest.main()
