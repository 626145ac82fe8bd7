"""Numbers that follow from others, and answers: document point [52]."""

import copy
import itertools
import random
import time
import unittest
from math import gcd

from tests import asked, helper
from tests.test_questions import DEEP, RED, WIDE, no_questions
from tickcounts.errors import InvalidItem, InvalidList, InvalidShop
from tickcounts.shops import Shop
from tickcounts.spans import count_of, fewest, follows, is_answer, parting
from tickcounts.stores import is_store

NONE = [[], []]
ALL_OF, ONLY_RED, BLUE = (NONE, NONE), ([["red"], []], NONE), ([["blue"], []], NONE)
EITHER, BOTH = ([["red", "blue"], []], NONE), (NONE, [["red", "blue"], []])
NOTHING = (NONE, [[], ["s", "m"]])
FIVE = [("a", "or", "one", list("vwxyz"))]
NO_LISTS = [None, True, 0, 1, "", "ab", (), (RED,), {}, {0: RED}, RED, 10 ** 999]


def of_boxes(*rows):
    """Questions of the shop with one group of five boxes, of which each counts the things with one of these boxes."""
    return [([list(row)], [[]]) for row in rows]


class Answers(helper.Checks):
    def assert_followed(self, groups, given, wanted):
        """What follows tells is of the right kind, shows what it has to, and is an answer."""
        told = follows(Shop(groups), given, wanted)
        self.assertIs(told.__class__, tuple)
        if asked.plainly_follows(groups, given, wanted):
            self.assert_sum(told, given)
        else:
            self.assert_apart(Shop(groups), told)
        self.assertTrue(asked.is_plain_answer(groups, given, wanted, told))
        self.assertIs(is_answer(Shop(groups), given, wanted, told), True)
        return told[0]

    def assert_sum(self, told, given):
        self.assertEqual((len(told), told[0]), (2, "sum"))
        self.assertIs(told[1].__class__, list)
        self.assertEqual(len(told[1]), len(given))
        for factor in told[1]:
            self.assertIs(factor.__class__, tuple)
            self.assertEqual([number.__class__ for number in factor], [int, int])
            self.assertGreaterEqual(factor[1], 1)
            self.assertEqual(gcd(*factor), 1)
            self.assertLess(max(abs(factor[0]), factor[1]), 10 ** 100)

    def assert_apart(self, shop, told):
        self.assertEqual((len(told), told[0]), (3, "apart"))
        for store in told[1:]:
            self.assertTrue(is_store(shop, store))
            self.assertLessEqual(len(store), 200)


class TestFollows(Answers, unittest.TestCase):
    def test_example_of_the_document(self):
        shop = helper.shop()
        told = [
            follows(shop, [ONLY_RED, BLUE, EITHER], BOTH), follows(shop, [ALL_OF, ONLY_RED], BLUE)[0],
            fewest(shop, [ALL_OF, ONLY_RED, BLUE, EITHER, BOTH], [1, 1, 1, 5, 1]), parting(shop, ONLY_RED, EITHER),
            count_of(shop, [("cup", [["red"], ["s"]])], BOTH),
        ]
        self.assertEqual(told, [("sum", [(1, 1), (1, 1), (-1, 1)]), "apart", [0, 1, 2, 4], [["blue"], ["m"]], 0])
        self.assertEqual(self.assert_followed(helper.GROUPS, [ALL_OF, ONLY_RED], BLUE), "apart")

    def test_all_pairs_at_the_documents_shop(self):
        told = []
        for given, wanted in itertools.product(asked.every_question(helper.GROUPS)[::3], repeat=2):
            told.append(self.assert_followed(helper.GROUPS, [given], wanted))
        self.assertGreater(told.count("sum"), 500)
        self.assertGreater(told.count("apart"), 500)

    def test_up_to_six_questions_at_small_shops(self):
        chance, told = random.Random(60), []
        for groups in helper.small_shops():
            for many in range(7):
                for _ in range(8):
                    given = asked.questions(groups, chance, many)
                    told.append(self.assert_followed(groups, given, asked.question(groups, chance)))
        self.assertGreater(told.count("sum"), 150)
        self.assertGreater(told.count("apart"), 150)

    def test_wide_shops(self):
        chance = random.Random(61)
        for groups in (WIDE[1:], DEEP[1:], FIVE):
            for many in (1, 3, 6, 6):
                given = asked.questions(groups, chance, many, 0.2, 0.1)
                self.assert_followed(groups, given, asked.question(groups, chance, 0.2, 0.1))
                self.assert_followed(groups, given, given[-1])

    def test_a_wanted_one_among_them(self):
        chance = random.Random(62)
        for groups in helper.small_shops():
            given = asked.questions(groups, chance, 5)
            for wanted in given:
                self.assertEqual(self.assert_followed(groups, given, copy.deepcopy(wanted)), "sum")
                self.assertEqual(self.assert_followed(groups, [*given, wanted], wanted), "sum")

    def test_no_questions_at_all(self):
        for groups in helper.small_shops():
            for wanted in asked.every_question(groups)[::5]:
                kind = "apart" if any(asked.column(groups, wanted)) else "sum"
                self.assertEqual(self.assert_followed(groups, [], wanted), kind)
        self.assertEqual(follows(helper.shop(), [], NOTHING), ("sum", []))

    def test_what_always_is_0(self):
        self.assertEqual(follows(helper.shop(), [NOTHING], NOTHING)[0], "sum")
        self.assertEqual(self.assert_followed(helper.GROUPS, [NOTHING] * 6, NOTHING), "sum")
        self.assertEqual(self.assert_followed(helper.GROUPS, [NOTHING] * 6, ALL_OF), "apart")
        self.assertEqual(self.assert_followed(helper.GROUPS, [BLUE, ALL_OF], NOTHING), "sum")

    def test_factors_that_are_no_whole_numbers(self):
        pairs = of_boxes("vw", "wx", "vx")
        shop = Shop(FIVE)
        self.assertEqual(follows(shop, pairs, ([["v"]], [[]])), ("sum", [(1, 2), (-1, 2), (1, 2)]))
        self.assertEqual(follows(shop, pairs, ([["v", "w", "x"]], [[]])), ("sum", [(1, 2)] * 3))
        fours = of_boxes("vwxy", "vwxz", "vwyz", "vxyz", "wxyz")
        self.assertEqual(follows(shop, fours, ([[]], [[]])), ("sum", [(1, 4)] * 5))
        self.assertEqual(follows(shop, fours, ([["v"]], [[]])), ("sum", [(1, 4)] * 4 + [(-3, 4)]))
        # A matrix of zeros and ones of five rows with the determinant 5.
        fifths = of_boxes("vwx", "vyz", "wy", "wz", "xyz")
        for row in helper.subsets("vwxyz")[1:]:
            self.assertEqual(self.assert_followed(FIVE, fifths, ([row], [[]])), "sum")

    def test_six_questions_that_need_many_items(self):
        """With six questions of which each counts many kinds, the stores of an example have some ten items."""
        chance, groups = random.Random(63), [("a", "or", "one", list("vwxyz")), ("b", "or", "one", list("vwx"))]
        longest = 0
        for _ in range(400):
            given, wanted = asked.questions(groups, chance, 6, 0.5, 0), asked.question(groups, chance, 0.5, 0)
            told = follows(Shop(groups), given, wanted)
            self.assertTrue(asked.is_plain_answer(groups, given, wanted, told))
            if told[0] == "apart":
                longest = max(longest, len(told[1]), len(told[2]))
        self.assertGreater(longest, 4)
        self.assertLessEqual(longest, 63)

    def test_the_largest_shops_within_seconds(self):
        chance, began = random.Random(64), time.monotonic()
        for groups in (WIDE, DEEP):
            for _ in range(30):
                given, wanted = asked.questions(groups, chance, 6), asked.question(groups, chance)
                told = follows(Shop(groups), given, wanted)
                self.assertIs(is_answer(Shop(groups), given, wanted, told), True)
        self.assertLess(time.monotonic() - began, 5)

    def test_wrong_arguments_in_order(self):
        shop, answer = helper.shop(), ("sum", [])
        for call, more in ((follows, ()), (is_answer, (answer,)), (is_answer, (None,))):
            for value in helper.wrong_shops():
                self.assert_raised(InvalidShop, value, call, value, [RED], RED, *more)
                self.assert_raised(InvalidShop, value, call, value, None, None, *more)
            for value in [*NO_LISTS, helper.shop(), helper.library(), helper.rule()]:
                self.assert_raised(InvalidList, value, call, shop, value, RED, *more)
                self.assert_raised(InvalidList, value, call, shop, value, None, *more)
            for value in no_questions():
                self.assert_raised(InvalidItem, value, call, shop, [value], RED, *more)
                self.assert_raised(InvalidItem, value, call, shop, [RED, value, RED], None, *more)
                self.assert_raised(InvalidItem, value, call, shop, [RED, value, ["no"]], ["no"], *more)
                self.assert_raised(InvalidItem, value, call, shop, [], value, *more)
                self.assert_raised(InvalidItem, value, call, shop, [RED, BLUE], value, *more)


class TestIsAnswer(Answers, unittest.TestCase):
    def assert_answer(self, wanted, *given):
        self.assertIs(is_answer(*given), wanted)

    def test_factors(self):
        shop, given = helper.shop(), [ONLY_RED, BLUE, EITHER]
        right = [(1, 1), (1, 1), (-1, 1)]
        self.assert_answer(True, shop, given, BOTH, ("sum", right))
        for at in range(3):
            for factor in [
                (0, 1), (1, 2), (2, 1), (-right[at][0], 1), (2, 2), (-2, 2), (-right[at][0], -1), (right[at][0], 0),
                (right[at][0], -1), (1, 1, 1), (1,), (), [1, 1], [*right[at]], 1, None, True, "11", {}, (True, 1),
                (1, True), (right[at][0], True), ("1", "1"), (None, 1), (1, None), ([1], 1), (10 ** 999, 1),
                (1, 10 ** 999), RED, helper.shop(),
            ]:
                if factor != right[at] or True in [one is True for one in factor]:
                    factors = [*right[:at], factor, *right[at + 1:]]
                    self.assert_answer(False, shop, given, BOTH, ("sum", factors))
        for factors in (
            right[:2], [*right, (0, 1)], [], tuple(right), None, {0: (1, 1)}, "sum", (1, 1), [[1, 1]] * 3, True, 3,
        ):
            self.assert_answer(False, shop, given, BOTH, ("sum", factors))

    def test_booleans_where_numbers_stand(self):
        shop = helper.shop()
        self.assert_answer(True, shop, [BLUE], BLUE, ("sum", [(1, 1)]))
        self.assert_answer(True, shop, [ALL_OF], NOTHING, ("sum", [(0, 1)]))
        for factor in ((True, 1), (1, True), (True, True)):
            self.assert_answer(False, shop, [BLUE], BLUE, ("sum", [factor]))
        for factor in ((False, 1), (0, True), (0, False)):
            self.assert_answer(False, shop, [ALL_OF], NOTHING, ("sum", [factor]))

    def test_lowest_terms_and_numbers_below_1(self):
        shop = helper.shop()
        for top in range(-4, 5):
            for under in range(-4, 5):
                self.assert_answer((top, under) == (1, 1), shop, [BLUE], BLUE, ("sum", [(top, under)]))
                self.assert_answer((top, under) == (0, 1), shop, [BLUE], NOTHING, ("sum", [(top, under)]))
                right = under >= 1 and gcd(top, under) == 1
                self.assert_answer(right, shop, [NOTHING], NOTHING, ("sum", [(top, under)]))
                self.assert_answer(False, shop, [NOTHING], BLUE, ("sum", [(top, under)]))

    def test_any_factors_that_are_right(self):
        shop, twice = helper.shop(), [BLUE, BLUE]
        for factors in ([(1, 1), (0, 1)], [(0, 1), (1, 1)], [(1, 2), (1, 2)], [(1, 3), (2, 3)], [(5, 2), (-3, 2)]):
            self.assert_answer(True, shop, twice, BLUE, ("sum", factors))
        for factors in ([(1, 1), (1, 1)], [(1, 2), (1, 3)], [(2, 4), (1, 2)], [(0, 2), (1, 1)]):
            self.assert_answer(False, shop, twice, BLUE, ("sum", factors))
        fours = of_boxes("vwxy", "vwxz", "vwyz", "vxyz", "wxyz")
        self.assert_answer(True, Shop(FIVE), fours, ([[]], [[]]), ("sum", [(1, 4)] * 5))
        self.assert_answer(False, Shop(FIVE), fours, ([[]], [[]]), ("sum", [(1, 4)] * 4 + [(1, 5)]))

    def test_as_many_factors_as_questions(self):
        shop = helper.shop()
        for many in range(4):
            for factors in ([], [(0, 1)], [(0, 1), (3, 1)], [(0, 1)] * 3, [(0, 1)] * 4):
                told = is_answer(shop, [NOTHING] * many, NOTHING, ("sum", factors))
                self.assertIs(told, len(factors) == many)
                self.assert_answer(False, shop, [NOTHING] * many, BLUE, ("sum", factors))

    def test_factors_of_1000_digits(self):
        shop, large = helper.shop(), 10 ** 999 + 7
        factors = [(large, 3), (3 - large, 3)]
        self.assertEqual(gcd(large, 3), 1)
        self.assertEqual(gcd(3 - large, 3), 1)
        self.assert_answer(True, shop, [BLUE, BLUE], BLUE, ("sum", factors))
        self.assert_answer(False, shop, [BLUE, BLUE], BLUE, ("sum", [(large, 3), (4 - large, 3)]))
        self.assert_answer(True, shop, [BLUE, BLUE], BLUE, ("sum", [(1, large), (large - 1, large)]))
        self.assert_answer(False, shop, [BLUE, BLUE], BLUE, ("sum", [(1, large), (large - 2, large)]))
        unders = [10 ** 999 - place for place in range(6)]
        began = time.monotonic()
        self.assert_answer(False, shop, [BLUE] * 6, BLUE, ("sum", [(1, under) for under in unders]))
        self.assertLess(time.monotonic() - began, 2)

    def test_stores(self):
        shop, given = helper.shop(), [ALL_OF, ONLY_RED]
        low, high = [("cup", [[], ["m"]])], [("jug", [["blue"], ["s"]])]
        self.assert_answer(True, shop, given, BLUE, ("apart", low, high))
        self.assert_answer(True, shop, given, BLUE, ("apart", high, low))
        for store in (
            [], low, [*high, *high], [*high, low[0]], [("jug", [["red", "blue"], ["s"]])], [("jug", [["red"], ["s"]])],
            None, (), tuple(high), high[0], [list(high[0])], [("Jug", high[0][1])], [("jug", [["blue"], []])],
            [("jug", [["blue"], ["s", "m"]])], {}, True, 1, "jug", [None], helper.shop(), helper.library(),
        ):
            self.assert_answer(False, shop, given, BLUE, ("apart", low, store))
            self.assert_answer(False, shop, given, BLUE, ("apart", store, low))
        for word in ("sum", "Apart", "", None, True, [], ("apart",), helper.library()):
            self.assert_answer(False, shop, given, BLUE, (word, low, high))
        self.assert_answer(False, shop, given, ONLY_RED, ("apart", low, high))
        self.assert_answer(False, shop, [*given, BLUE], BLUE, ("apart", low, high))
        self.assert_answer(True, shop, [], BLUE, ("apart", [], high))
        self.assert_answer(False, shop, [], BLUE, ("apart", [], low))

    def test_stores_of_200_and_201_items(self):
        shop, given = helper.shop(), [ONLY_RED]
        low, high = ("cup", [[], ["m"]]), ("jug", [["blue"], ["s"]])
        for many, other in itertools.product((199, 200, 201, 202), repeat=2):
            right = many <= 200 and other <= 200
            self.assert_answer(right, shop, given, BLUE, ("apart", [low] * many, [high] * other))
        self.assert_answer(False, shop, given, BLUE, ("apart", [high] * 201, []))
        self.assert_answer(False, shop, given, BLUE, ("apart", [], [high] * 3000))

    def test_one_factor_or_one_item_changed(self):
        chance, changed = random.Random(65), {"sum": 0, "apart": 0}
        for groups in helper.small_shops():
            shop, things = Shop(groups), helper.every_thing(groups)
            for _ in range(25):
                given, wanted = asked.questions(groups, chance, chance.randrange(1, 7)), asked.question(groups, chance)
                kind, *rest = follows(shop, given, wanted)
                if kind == "sum":
                    at = chance.randrange(len(given))
                    rest[0][at] = chance.choice([(rest[0][at][0] + rest[0][at][1], rest[0][at][1]), (1, 7), (0, 1)])
                else:
                    store = chance.choice([store for store in rest if store])
                    store[chance.randrange(len(store))] = ("item", copy.deepcopy(chance.choice(things)))
                told = is_answer(shop, given, wanted, (kind, *rest))
                self.assertIs(told, asked.is_plain_answer(groups, given, wanted, (kind, *rest)))
                changed[kind] += not told
        self.assertGreater(min(changed.values()), 50)

    def test_values_of_any_kind(self):
        shop, given, right = helper.shop(), [BLUE], [(1, 1)]
        store = [("cup", [["blue"], ["m"]])]
        for value in [
            *helper.odd_values(), helper.shop(), right, (right,), ["sum", right], ("sum",), ("sum", right, right),
            ("sums", right), ("Sum", right), ("apart", right), (right, "sum"), (None, right), (["sum"], right),
            ("sum", right, None), ("apart",), ("apart", [], store, store), ["apart", [], store], ("sum", [], store),
            "sum", ("apart", [], store), (helper.library(), right), (helper.shop(), right), {"sum": right},
        ]:
            self.assert_answer(False, shop, given, BLUE, value)
        self.assert_answer(True, shop, given, BLUE, ("sum", right))
        self.assert_answer(False, shop, [], BLUE, ("apart", store))
        self.assert_answer(False, shop, [], BLUE, ("apart", store, [], []))


if __name__ == "__main__":
    unittest.main()
