"""What holds for all stores and all ticks: document points [30] to [35]."""

import itertools
import random
import time
import unittest

from tests import helper
from tests.tables import Table
from tickcounts.errors import InvalidRule, InvalidShop, UnknownName
from tickcounts.promises import click_right, falling, nought_right, same_order, sum_right, unlike
from tickcounts.rules import Rule, shown
from tickcounts.shops import Shop, is_ticks
from tickcounts.stores import hits, is_store, models

OF_ONE = (click_right, nought_right, falling)
OF_TWO = (unlike, same_order)
WORDS = helper.every_words()

# Groups, and up to how many items all stores are tried. None of three items breaks what two don't, but for an order.
TINY = [
    ([("a", "or", "one", ["x", "y"])], 3),
    ([("a", "and", "one", ["x", "y"])], 3),
    ([("a", "or", "many", ["x", "y"])], 3),
    ([("a", "and", "many", ["x", "y"])], 3),
    ([("a", "or", "one", ["x"])], 3),
    ([("a", "and", "one", ["x"])], 3),
    ([("a", "or", "many", ["x"])], 3),
    ([("a", "and", "many", ["x"])], 3),
    ([("a", "or", "one", ["x", "y", "z"])], 3),
    ([("a", "and", "one", ["x", "y", "z"])], 3),
]
SMALL = [
    (helper.GROUPS, 2),
    ([("a", "and", "many", ["x", "y", "z"])], 2),
    ([("a", "or", "many", ["x", "y", "z"])], 2),
    ([("a", "and", "one", ["x", "y"]), ("b", "and", "one", ["y", "z"])], 3),
    ([("a", "or", "one", ["x", "y"]), ("b", "or", "one", ["x", "y"])], 3),
    ([("a", "and", "many", ["x"]), ("b", "and", "many", ["y", "z"])], 2),
    ([("a", "or", "many", ["x"]), ("b", "or", "one", ["x", "y"])], 3),
    ([("a", "or", "one", ["x"]), ("b", "and", "one", ["x", "y"])], 3),
    ([("a", "or", "one", ["x"]), ("b", "and", "many", ["x"]), ("c", "or", "one", ["x", "y"])], 2),
    # Only a tick in the last group lets a thing meet the ticks that it did not meet, whatever is ticked elsewhere.
    ([("a", "and", "many", ["x"]), ("b", "and", "many", ["x"]), ("c", "or", "one", ["x", "y"])], 2),
]


class Examples(helper.Checks):
    """Checks of examples, by counting."""

    def assert_store_and_ticks(self, groups, store, ticks):
        self.assertTrue(is_store(Shop(groups), store))
        self.assertTrue(is_ticks(Shop(groups), ticks))

    def numbers(self, groups, store, ticks, words, group, boxes):
        """The numbers shown beside boxes, as the document tells them and as shown does."""
        at = [name for name, _, _, _ in groups].index(group)
        told = [helper.plain_shown(groups, store, ticks, words, at, box) for box in boxes]
        shop, rule = Shop(groups), Rule(*words)
        self.assertEqual([shown(shop, store, ticks, rule, group, box) for box in boxes], told)
        return told

    def behind(self, groups, ticks, group, box):
        """The ticks with a box more, which must not be ticked yet."""
        at = [name for name, _, _, _ in groups].index(group)
        self.assertNotIn(box, ticks[at])
        return helper.with_box(groups, ticks, at, box)

    def found(self, groups, store, ticks, counts):
        found = hits if counts == "things" else models
        return len(found(Shop(groups), store, ticks))

    def assert_unlike(self, groups, words, others, told):
        store, ticks, group, box = told
        self.assert_store_and_ticks(groups, store, ticks)
        one = self.numbers(groups, store, ticks, words, group, [box])
        self.assertNotEqual(one, self.numbers(groups, store, ticks, others, group, [box]))

    def assert_click_wrong(self, groups, words, told):
        store, ticks, group, box = told
        self.assert_store_and_ticks(groups, store, ticks)
        behind = self.behind(groups, ticks, group, box)
        number = self.numbers(groups, store, ticks, words, group, [box])[0]
        self.assertNotEqual(number, self.found(groups, store, behind, words[3]))

    def assert_nought_wrong(self, groups, words, told):
        store, ticks, group, box = told
        self.assert_store_and_ticks(groups, store, ticks)
        behind = self.behind(groups, ticks, group, box)
        self.assertEqual(self.numbers(groups, store, ticks, words, group, [box]), [0])
        self.assertGreater(self.found(groups, store, behind, words[3]), 0)

    def assert_rises(self, groups, words, told):
        store, ticks, more, group, box = told
        self.assert_store_and_ticks(groups, store, ticks)
        self.assertIs(more.__class__, tuple)
        behind = self.behind(groups, ticks, *more)
        ahead = self.numbers(groups, store, ticks, words, group, [box])
        self.assertGreater(self.numbers(groups, store, behind, words, group, [box]), ahead)

    def assert_sum_wrong(self, groups, words, group, told):
        store, ticks = told
        self.assert_store_and_ticks(groups, store, ticks)
        boxes = Shop(groups).boxes(group)
        total = sum(self.numbers(groups, store, ticks, words, group, boxes))
        self.assertNotEqual(total, self.found(groups, store, ticks, words[3]))

    def assert_order_unlike(self, groups, words, others, told):
        store, ticks, group, box, second = told
        self.assert_store_and_ticks(groups, store, ticks)
        one, two = self.numbers(groups, store, ticks, words, group, [box, second])
        three, four = self.numbers(groups, store, ticks, others, group, [box, second])
        self.assertNotEqual(one > two, three > four)

    def assert_told(self, told, least, check, *given):
        """What is told is None just where no store is the least one, and else an example with as few items."""
        self.assertEqual(None if told is None else len(told[0]), least)
        if told is not None:
            self.assertIs(told.__class__, tuple)
            self.assert_own(told)
            check(*given, told)


class TestAllSmallStores(Examples, unittest.TestCase):
    """Each answer against all stores of one, of two and (where they are few) of three items."""

    def assert_as_the_table(self, groups, most, pairs):
        table, shop = Table(groups, most), Shop(groups)
        for words in WORDS:
            rule = Rule(*words)
            with self.subTest(groups=groups, words=words):
                self.assert_told(
                    click_right(shop, rule), table.click_right(words), self.assert_click_wrong, groups, words)
                self.assert_told(
                    nought_right(shop, rule), table.nought_right(words), self.assert_nought_wrong, groups, words)
                self.assert_told(falling(shop, rule), table.falling(words), self.assert_rises, groups, words)
                for at, (group, _, _, _) in enumerate(groups):
                    least, told = table.sum_right(words, at), sum_right(shop, rule, group)
                    self.assert_told(told, least, self.assert_sum_wrong, groups, words, group)
        for words, others in pairs:
            with self.subTest(groups=groups, words=words, others=others):
                one, other = Rule(*words), Rule(*others)
                told, least = unlike(shop, one, other), table.unlike(words, others)
                self.assert_told(told, least, self.assert_unlike, groups, words, others)
                told, least = same_order(shop, one, other), table.same_order(words, others)
                if least is None and most < 3 and told is not None:
                    # Whether three items show it is not tried here; fewer do not.
                    least = 3
                self.assert_told(told, least, self.assert_order_unlike, groups, words, others)

    def test_tiny_shops_with_all_pairs_of_rules(self):
        for groups, most in TINY[:4]:
            self.assert_as_the_table(groups, most, itertools.product(WORDS, WORDS))

    def test_tiny_shops(self):
        chance = random.Random(21)
        for groups, most in TINY[4:]:
            pairs = [(chance.choice(WORDS), chance.choice(WORDS)) for _ in range(800)]
            self.assert_as_the_table(groups, most, pairs)

    def test_small_shops(self):
        chance = random.Random(22)
        for groups, most in SMALL:
            pairs = [(chance.choice(WORDS), chance.choice(WORDS)) for _ in range(500)]
            self.assert_as_the_table(groups, most, pairs)


def large_shops():
    """Groups of shops at the limits: a million ticks, 4,096 things, all "or", all "and", all "one", all "many"."""
    five = list("abcde")
    yield [(name, "or", "one", five) for name in "pqrs"]
    yield [(name, "and", "one", five) for name in "pqrs"]
    yield [(name, "or", "many", ["a", "b", "c"]) for name in "pqrs"]
    yield [(name, "and", "many", ["a", "b", "c"]) for name in "pqrs"]
    yield [("p", "or", "many", five), ("q", "and", "many", five), ("r", "or", "one", ["a"]), ("s", "or", "many", ["b"])]
    yield [("p", "and", "one", ["a"]), ("q", "or", "one", five), ("r", "and", "many", five), ("s", "or", "one", five)]


class TestLargeShops(Examples, unittest.TestCase):
    def test_examples_at_the_limits_within_seconds(self):
        chance = random.Random(23)
        for groups in large_shops():
            shop = Shop(groups)
            began = time.monotonic()
            for words in WORDS:
                rule, others = Rule(*words), chance.choice(WORDS)
                other = Rule(*others)
                for call, check in (
                    (click_right, self.assert_click_wrong), (nought_right, self.assert_nought_wrong),
                    (falling, self.assert_rises),
                ):
                    told = call(shop, rule)
                    self.assert_told(told, told and 1, check, groups, words)
                for call, check in ((unlike, self.assert_unlike), (same_order, self.assert_order_unlike)):
                    told = call(shop, rule, other)
                    self.assert_told(told, told and len(told[0]), check, groups, words, others)
                for group in shop.names():
                    told = sum_right(shop, rule, group)
                    self.assert_told(told, told and len(told[0]), self.assert_sum_wrong, groups, words, group)
            self.assertLess(time.monotonic() - began, 20)

    def test_more_boxes_change_no_number_of_items(self):
        """A third, fourth and fifth box change neither whether there is an example nor its number of items."""
        def sizes(groups, words, others):
            shop, rule, other = Shop(groups), Rule(*words), Rule(*others)
            told = [call(shop, rule) for call in OF_ONE] + [call(shop, rule, other) for call in OF_TWO]
            told.extend(sum_right(shop, rule, group[0]) for group in groups)
            return [one and len(one[0]) for one in told]

        chance = random.Random(24)
        for kinds in itertools.product(itertools.product(("or", "and"), ("one", "many")), repeat=2):
            for words in WORDS:
                others = chance.choice(WORDS)
                few, many = (
                    [(name, *kind, list("vwxyz")[:boxes]) for name, kind in zip("pq", kinds)]
                    for boxes in (2, chance.choice((3, 4, 5)))
                )
                self.assertEqual(sizes(few, words, others), sizes(many, words, others))


class TestWhatTheDocumentTells(Examples, unittest.TestCase):
    def shops(self):
        return [Shop(groups) for groups, _ in TINY + SMALL]

    def test_example_of_the_document(self):
        shop = Shop([("hue", "or", "many", ["red", "blue"]), ("size", "and", "one", ["s", "m"])])
        right, plain = Rule("add", "keep", False, "things", False), Rule("leave", "keep", True, "things", False)
        only, keep = Rule("only", "keep", True, "things", False), Rule("keep", "keep", True, "things", False)
        told = [
            click_right(shop, right), unlike(shop, plain, only), len(click_right(shop, plain)[0]),
            len(falling(shop, right)[0]), sum_right(shop, keep, "size"),
        ]
        self.assertEqual(told, [None, None, 1, 1, None])

    def test_unlike_with_two_items_of_one_model(self):
        things, by_models = Rule("add", "keep", False, "things", False), Rule("add", "keep", False, "models", False)
        for shop in self.shops():
            for one, other in ((things, by_models), (by_models, things)):
                store, ticks, group, box = unlike(shop, one, other)
                self.assertEqual(len(store), 2)
                self.assertEqual(store[0][0], store[1][0])
            self.assertIsNone(unlike(shop, things, things))
            self.assertIsNone(unlike(shop, by_models, by_models))

    def test_unlike_with_two_items_just_where_the_rules_are_alike_for_things(self):
        for groups, _ in TINY:
            shop = Shop(groups)
            for words in WORDS:
                for others in WORDS[::5]:
                    alike = unlike(shop, Rule(*words[:3], "things", words[4]), Rule(*others[:3], "things", others[4]))
                    told = unlike(shop, Rule(*words), Rule(*others))
                    if told is not None and len(told[0]) == 2:
                        self.assertIsNone(alike)
                        self.assertNotEqual(words[3], others[3])
                    if alike is not None:
                        self.assertEqual(len(told[0]), 1)

    def test_rules_that_always_show_0_are_alike(self):
        things, by_models = Rule("keep", "keep", False, "things", True), Rule("keep", "keep", False, "models", True)
        for shop in self.shops():
            self.assertIsNone(unlike(shop, things, by_models))
            self.assertIsNone(falling(shop, things))
            self.assertIsNone(falling(shop, by_models))

    def test_sum_with_two_items_of_one_model(self):
        shop = helper.shop()
        things, by_models = Rule("keep", "keep", True, "things", False), Rule("keep", "keep", True, "models", False)
        self.assertIsNone(sum_right(shop, things, "size"))
        store, ticks = sum_right(shop, by_models, "size")
        self.assertEqual(len(store), 2)
        self.assertEqual(store[0][0], store[1][0])
        self.assertEqual(len(sum_right(shop, by_models, "hue")[0]), 1)

    def test_click_right_is_unlike_none_to_the_right_rule(self):
        for shop in self.shops():
            for words in WORDS:
                right = Rule("add", "keep", False, words[3], False)
                rule = Rule(*words)
                self.assertEqual(click_right(shop, rule) is None, unlike(shop, rule, right) is None)

    def test_what_does_not_depend_on_counts(self):
        for shop in self.shops():
            for words in WORDS:
                one, other = Rule(*words[:3], "things", words[4]), Rule(*words[:3], "models", words[4])
                for call in OF_ONE:
                    self.assertEqual(call(shop, one) is None, call(shop, other) is None)

    def test_rules_with_less(self):
        for shop in self.shops():
            for words in WORDS:
                rule = Rule(*words[:4], True)
                self.assertIsNotNone(click_right(shop, rule))
                self.assertIsNotNone(nought_right(shop, rule))
                for group in shop.names():
                    self.assertIsNotNone(sum_right(shop, rule, group))
                # What the rule shows with less is 0 everywhere just where without it all numbers are those found.
                nought = unlike(shop, Rule("keep", "keep", False, words[3], True), rule) is None
                self.assertEqual(falling(shop, rule) is None, nought)

    def test_order_with_one_two_and_three_items(self):
        one_of, many_of = Shop([("a", "or", "one", ["x", "y"])]), Shop([("a", "or", "many", ["x", "y"])])
        things, by_models = Rule("only", "keep", True, "things", False), Rule("only", "keep", True, "models", False)
        never, bears = Rule("leave", "leave", False, "things", False), Rule("keep", "keep", True, "things", False)
        self.assertEqual(len(same_order(one_of, things, never)[0]), 1)
        self.assertEqual(len(same_order(one_of, things, bears)[0]), 1)
        self.assertEqual(len(same_order(many_of, things, by_models)[0]), 2)
        self.assertEqual(len(same_order(one_of, things, by_models)[0]), 3)
        for shop in (one_of, many_of):
            for rule, other in ((things, by_models), (by_models, things)):
                store, ticks, group, box, second = same_order(shop, rule, other)
                self.assertEqual(len({model for model, _ in store}), 1)
                self.assertNotEqual(box, second)

    def test_order_of_the_same_rule_and_of_rules_the_other_way_about(self):
        for groups, _ in TINY:
            shop = Shop(groups)
            for words in WORDS:
                self.assertIsNone(same_order(shop, Rule(*words), Rule(*words)))
                self.assertIsNone(unlike(shop, Rule(*words), Rule(*words)))
                for others in WORDS[::7]:
                    one, other = Rule(*words), Rule(*others)
                    for call, check in ((same_order, self.assert_order_unlike), (unlike, self.assert_unlike)):
                        there, back = call(shop, one, other), call(shop, other, one)
                        self.assertEqual(there and len(there[0]), back and len(back[0]))
                        if back is not None:
                            check(groups, others, words, back)

    def test_less_changes_no_order(self):
        for shop in self.shops():
            for words in WORDS:
                self.assertIsNone(same_order(shop, Rule(*words[:4], True), Rule(*words[:4], False)))

    def test_order_in_groups_with_one_box(self):
        shop = Shop([("a", "or", "many", ["x"]), ("b", "and", "one", ["x"])])
        for words in WORDS:
            self.assertIsNone(same_order(shop, Rule(*words), Rule("only", "keep", True, "models", False)))


class TestArguments(Examples, unittest.TestCase):
    def test_by_name(self):
        shop, rule, other = helper.shop(), helper.rule(), Rule("only", "keep", True, "things", False)
        for call in OF_ONE:
            call(shop=shop, rule=rule)
        for call in OF_TWO:
            self.assertIsNone(call(shop=shop, rule=rule, other=other))
        self.assertIsNotNone(sum_right(shop=shop, rule=rule, group="hue"))

    def test_arguments_stay_and_answers_are_free(self):
        for groups, _ in TINY + SMALL:
            shop = Shop(groups)
            for words in WORDS[::3]:
                rule, other = Rule(*words), Rule("only", "leave", True, "models", False)
                for call in OF_ONE:
                    self.assert_free(call, shop, rule)
                for call in OF_TWO:
                    self.assert_free(call, shop, rule, other)
                for group in shop.names():
                    self.assert_free(sum_right, shop, rule, group)
                self.assertEqual(rule, Rule(*words))
                self.assertEqual(shop, Shop(groups))

    def test_equal_calls_tell_equal_answers(self):
        for words in WORDS:
            for call in OF_ONE:
                self.assertEqual(call(helper.shop(), Rule(*words)), call(helper.shop(), Rule(*words)))

    def test_wrong_shops(self):
        for value in helper.wrong_shops():
            for call in OF_ONE:
                self.assert_raised(InvalidShop, value, call, value, helper.rule())
                self.assert_raised(InvalidShop, value, call, value, None)
            for call in OF_TWO:
                self.assert_raised(InvalidShop, value, call, value, helper.rule(), helper.rule())
                self.assert_raised(InvalidShop, value, call, value, None, [])
            self.assert_raised(InvalidShop, value, sum_right, value, helper.rule(), "hue")
            self.assert_raised(InvalidShop, value, sum_right, value, None, None)

    def test_wrong_rules(self):
        shop, rule = helper.shop(), helper.rule()
        for value in helper.wrong_rules():
            for call in OF_ONE:
                self.assert_raised(InvalidRule, value, call, shop, value)
            for call in OF_TWO:
                self.assert_raised(InvalidRule, value, call, shop, value, rule)
                self.assert_raised(InvalidRule, value, call, shop, value, ["no rule"])
                self.assert_raised(InvalidRule, value, call, shop, rule, value)
            self.assert_raised(InvalidRule, value, sum_right, shop, value, "hue")
            self.assert_raised(InvalidRule, value, sum_right, shop, value, None)

    def test_unknown_groups(self):
        for value in [*helper.odd_values(), "red", "s", "Hue", ["hue"], ("hue",), helper.shop()]:
            self.assert_raised(UnknownName, value, sum_right, helper.shop(), helper.rule(), value, field="name")


if __name__ == "__main__":
    unittest.main()
