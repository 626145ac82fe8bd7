"""Bounds of hidden numbers, and stores that show them: document points [56] and [57]."""

import itertools
import random
import time
import unittest

from tests import asked, helper
from tests.test_fewest import NO_NUMBERS
from tests.test_follows import ALL_OF, BLUE, BOTH, EITHER, NO_LISTS, NONE, NOTHING, ONLY_RED
from tests.test_questions import DEEP, RED, WIDE, no_questions
from tickcounts.errors import InvalidItem, InvalidList, InvalidNumber, InvalidShop
from tickcounts.ranges import bound_stores, bounds
from tickcounts.shops import Shop
from tickcounts.spans import follows
from tickcounts.stores import is_store

MOST = 3000


class Ranges(helper.Checks):
    def assert_shown(self, groups, given, numbers, wanted):
        """What bound_stores tells shows what bounds tells, which is told."""
        shop = Shop(groups)
        told, stores = bounds(shop, given, numbers, wanted), bound_stores(shop, given, numbers, wanted)
        if told is None:
            self.assertIsNone(stores)
            return None
        self.assertEqual((told.__class__, len(told), stores.__class__, len(stores)), (tuple, 2, tuple, 2))
        for end, store in zip(told, stores):
            if end is None:
                self.assertIsNone(store)
            else:
                self.assertIs(end.__class__, int)
                self.assertTrue(is_store(shop, store))
                self.assertEqual([asked.number(groups, store, one) for one in given], numbers)
                self.assertEqual(asked.number(groups, store, wanted), end)
        self.assertIsNotNone(told[0])
        return told

    def assert_bounds(self, groups, given, numbers, wanted):
        """The bounds are those that a walk through all stores finds."""
        told = self.assert_shown(groups, given, numbers, wanted)
        self.assertEqual(told, asked.plain_bounds(groups, given, numbers, wanted))
        return told


def dynamic_bounds(groups, given, numbers, wanted):
    """The least and the greatest number of a wanted question, kind by kind, where it has a greatest."""
    kinds = sorted({
        (tuple(int(asked.counts(groups, one, thing)) for one in given), int(asked.counts(groups, wanted, thing)))
        for thing in helper.every_thing(groups)
    })
    told = {tuple(0 for _ in numbers): (0, 0)}
    for shape, worth in kinds:
        if any(shape):
            for start, (low, high) in list(told.items()):
                for many in range(1, MOST):
                    reached = tuple(one + many * adds for one, adds in zip(start, shape))
                    if any(one > most for one, most in zip(reached, numbers)):
                        break
                    here = told.get(reached, (MOST, -1))
                    told[reached] = (min(here[0], low + many * worth), max(here[1], high + many * worth))
    return told.get(tuple(numbers))


class TestBounds(Ranges, unittest.TestCase):
    def test_example_of_the_document(self):
        shop = helper.shop()
        told = [
            bounds(shop, [ONLY_RED, BLUE], [3, 2], EITHER), bounds(shop, [ONLY_RED, BLUE], [3, 2], ALL_OF),
            bounds(shop, [ALL_OF, ONLY_RED], [1, 2], BLUE),
        ]
        self.assertEqual(told, [(3, 5), (3, None), None])
        self.assert_shown(helper.GROUPS, [ONLY_RED, BLUE], [3, 2], EITHER)
        self.assert_shown(helper.GROUPS, [ONLY_RED, BLUE], [3, 2], ALL_OF)
        self.assert_shown(helper.GROUPS, [ALL_OF, ONLY_RED], [1, 2], BLUE)

    def test_one_question_at_the_documents_shop(self):
        told = set()
        every = asked.every_question(helper.GROUPS)[::3]
        for given, wanted in itertools.product(every, repeat=2):
            for number in (0, 1, 3):
                told.add(self.assert_bounds(helper.GROUPS, [given], [number], wanted))
        self.assertTrue({None, (0, 0), (0, None), (3, 3), (0, 3), (3, None)} <= told)

    def test_small_shops(self):
        chance, told = random.Random(80), []
        for groups in helper.small_shops():
            for many in range(5):
                for _ in range(8):
                    given, wanted = asked.questions(groups, chance, many), asked.question(groups, chance)
                    numbers = [chance.randrange(4) for _ in given]
                    told.append(self.assert_bounds(groups, given, numbers, wanted))
        self.assertGreater(told.count(None), 100)
        self.assertGreater(sum(one is not None and one[1] is None for one in told), 100)
        self.assertGreater(sum(one is not None and one[1] is not None and one[0] < one[1] for one in told), 20)

    def test_numbers_of_stores_that_there_are(self):
        chance, narrow = random.Random(81), 0
        for groups in helper.small_shops():
            for store in helper.stores_of(groups, chance):
                given, wanted = asked.questions(groups, chance, chance.randrange(4)), asked.question(groups, chance)
                numbers = [asked.number(groups, store, one) for one in given]
                least, greatest = self.assert_bounds(groups, given, numbers, wanted)
                number = asked.number(groups, store, wanted)
                self.assertTrue(least <= number and (greatest is None or number <= greatest))
                if follows(Shop(groups), given, wanted)[0] == "sum":
                    self.assertEqual((least, greatest), (number, number))
                    narrow += 1
        self.assertGreater(narrow, 20)

    def test_no_questions_at_all(self):
        for groups in helper.small_shops():
            for wanted in asked.every_question(groups)[::5]:
                some = any(asked.column(groups, wanted))
                self.assertEqual(self.assert_bounds(groups, [], [], wanted), (0, None) if some else (0, 0))
        self.assertEqual(bounds(helper.shop(), [], [], NOTHING), (0, 0))
        self.assertEqual(bound_stores(helper.shop(), [], [], NOTHING), ([], []))
        self.assertEqual(bound_stores(helper.shop(), [], [], BLUE), ([], None))

    def test_where_there_is_no_store(self):
        shop = helper.shop()
        for given, numbers in (
            ([NOTHING], [1]), ([ALL_OF, ALL_OF], [1, 2]), ([ALL_OF, BLUE], [1, 2]), ([NOTHING, BLUE], [2, 2]),
            ([ONLY_RED, BLUE, EITHER], [1, 1, 3]), ([ONLY_RED, BLUE, BOTH], [2, 3, 3]), ([EITHER, ONLY_RED], [0, 1]),
            ([ONLY_RED, BLUE, EITHER, BOTH], [4, 3, 5, 1]),
        ):
            self.assertIsNone(bounds(shop, given, numbers, BLUE))
            self.assertIsNone(bound_stores(shop, given, numbers, BLUE))
            self.assertIsNone(bounds(shop, given, numbers, NOTHING))

    def test_numbers_of_0(self):
        shop = helper.shop()
        self.assertEqual(bounds(shop, [NOTHING], [0], BLUE), (0, None))
        self.assertEqual(bounds(shop, [EITHER], [0], BLUE), (0, 0))
        self.assertEqual(bounds(shop, [EITHER], [0], ALL_OF), (0, None))
        self.assertEqual(bounds(shop, [ALL_OF], [0], ALL_OF), (0, 0))
        self.assertEqual(bound_stores(shop, [ALL_OF], [0], BLUE), ([], []))
        self.assertEqual(bounds(shop, [NOTHING, BLUE, NOTHING], [0, 7, 0], ALL_OF), (7, None))

    def test_no_whole_number_between(self):
        """Three kinds of which two each are counted: their numbers add up to an even one."""
        groups = [("a", "or", "one", list("xyz"))]
        pairs = [([list(row)], [[]]) for row in ("xy", "yz", "xz")]
        self.assertEqual(self.assert_bounds(groups, pairs, [1, 1, 2], ([["x"]], [[]])), (1, 1))
        for numbers in ([1, 1, 1], [1, 2, 2], [3, 3, 3], [5, 1, 1], [0, 0, 2]):
            self.assertIsNone(self.assert_bounds(groups, pairs, numbers, ([["x"]], [[]])))

    def test_bracket_behind_56(self):
        """Two boxes of a group with "many", or of two groups: the bounds of what bears both."""
        shops = [
            ([("a", "or", "many", ["x", "y"])], [["x"]], [["y"]]),
            ([("a", "or", "many", ["x"]), ("b", "and", "one", ["y", "z"])], [["x"], []], [[], ["y"]]),
            ([("a", "and", "one", ["x", "z"]), ("b", "and", "one", ["y", "z", "x"])], [["x"], []], [[], ["y"]]),
            ([("a", "or", "many", ["x", "z"]), ("b", "or", "many", ["y"])], [["x"], []], [[], ["y"]]),
        ]
        for groups, one, other in shops:
            none = asked.nothing(groups)
            both = [[*row, *more] for row, more in zip(one, other)]
            given = [(none, none), (none, one), (none, other)]
            for n, p, q in itertools.product(range(0, 12, 3), range(0, 14, 4), range(0, 13, 3)):
                told = self.assert_shown(groups, given, [n, p, q], (none, both))
                self.assertEqual(told, None if max(p, q) > n else (max(0, p + q - n), min(p, q)))
        # In a group with "one" no thing bears two boxes.
        groups, none = [("a", "or", "one", ["x", "y", "z"])], [[]]
        given = [(none, none), (none, [["x"]]), (none, [["y"]])]
        self.assertEqual(bounds(Shop(groups), given, [9, 3, 4], (none, [["x", "y"]])), (0, 0))
        self.assertIsNone(bounds(Shop(groups), given, [6, 3, 4], (none, [["x", "y"]])))


class TestLimits(Ranges, unittest.TestCase):
    def test_numbers_up_to_the_limit(self):
        groups, none = [("a", "or", "many", list("vwxyz"))], [[]]
        boxes = asked.box_questions(groups)
        for numbers in (
            [2999], [0, 2999], [53, 54], [1, 1499], [13, 13, 14], [6, 6, 7, 6], [1, 1, 1, 374], [999, 2, 0, 0],
        ):
            given = boxes[:len(numbers)]
            wanted = (none, [["v", "w"]])
            self.assertEqual(self.assert_shown(groups, given, numbers, wanted), (0, min(numbers[:2])))
            self.assertEqual(self.assert_shown(groups, given, numbers, (none, none)), (max(numbers), None))
            self.assertEqual(self.assert_shown(groups, given, numbers, ([list("vwxy")[:len(numbers)]], none)),
                             (max(numbers), sum(numbers)))

    def test_wide_shops_against_kind_by_kind(self):
        chance, told = random.Random(82), []
        for groups in (DEEP[1:], WIDE[1:]):
            things = helper.every_thing(groups)
            for many, most in ((1, 60), (2, 20), (3, 7), (4, 4)):
                for _ in range(5):
                    given, wanted = asked.questions(groups, chance, many, 0.2, 0.05), asked.question(groups, chance)
                    store = [("p", chance.choice(things)) for _ in range(most)]
                    numbers = [min(most, asked.number(groups, store, one)) for one in given]
                    kinds = dynamic_bounds(groups, given, numbers, wanted)
                    least, greatest = self.assert_shown(groups, given, numbers, wanted)
                    self.assertEqual(least, kinds[0])
                    self.assertIn(greatest, (None, kinds[1]))
                    free = any(
                        asked.counts(groups, wanted, thing) and not any(asked.counts(groups, one, thing) for one in given)
                        for thing in things)
                    self.assertIs(greatest is None, free)
                    told.append(greatest)
        self.assertGreater(told.count(None), 3)
        self.assertGreater(len(told) - told.count(None), 3)

    def test_the_largest_within_seconds(self):
        chance, began = random.Random(83), time.monotonic()
        for groups in (WIDE, DEEP):
            for numbers in ([2999], [53, 54], [13, 13, 14], [6, 6, 7, 6], [1, 1, 1, 374], [374, 1, 1, 1]):
                for odds in ((0.2, 0.05), (0.05, 0.05)):
                    given = asked.questions(groups, chance, len(numbers), *odds)
                    for call in (bounds, bound_stores):
                        call(Shop(groups), given, numbers, asked.question(groups, chance, *odds))
        self.assertLess(time.monotonic() - began, 10)


class TestWrongArguments(Ranges, unittest.TestCase):
    def test_in_order(self):
        good = [helper.shop(), [RED, BLUE], [1, 2], BOTH]
        lists = [*NO_LISTS, helper.shop(), helper.library()]
        for call in (bounds, bound_stores):
            for value in helper.wrong_shops():
                self.assert_raised(InvalidShop, value, call, value, *good[1:])
                self.assert_raised(InvalidShop, value, call, value, None, None, None)
            for value in lists:
                self.assert_raised(InvalidList, value, call, good[0], value, *good[2:])
                self.assert_raised(InvalidList, value, call, good[0], value, None, None)
                self.assert_raised(InvalidList, value, call, *good[:2], value, BOTH)
                self.assert_raised(InvalidList, value, call, *good[:2], value, None)
            for value in ([], [1], [1, 2, 3], [None], (1, 2), "12", {0: 1, 1: 2}):
                self.assert_raised(InvalidList, value, call, *good[:2], value, None)
            for value in no_questions():
                self.assert_raised(InvalidItem, value, call, good[0], [RED, value], *good[2:])
                self.assert_raised(InvalidItem, value, call, good[0], [value, ["no"]], None, None)
                self.assert_raised(InvalidItem, value, call, *good[:3], value)
                self.assert_raised(InvalidItem, value, call, good[0], [], [], value)
            for value in NO_NUMBERS:
                self.assert_raised(InvalidNumber, value, call, *good[:2], [value, 1], BOTH)
                self.assert_raised(InvalidNumber, value, call, *good[:2], [10 ** 999, value], None)
                self.assert_raised(InvalidNumber, value, call, *good[:2], [value, ["none"]], None)

    def test_a_wanted_one_is_checked_ahead_of_a_long_search(self):
        self.assert_raised(InvalidItem, None, bounds, helper.shop(), [BLUE], [10 ** 999], None)
        self.assert_raised(InvalidItem, NONE, bound_stores, helper.shop(), [BLUE], [10 ** 999], NONE)


if __name__ == "__main__":
    unittest.main()
