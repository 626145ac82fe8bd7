"""The fewest questions from which all of a list follow: document point [53]."""

import itertools
import random
import time
import unittest

from tests import asked, helper
from tests.test_follows import ALL_OF, BLUE, BOTH, EITHER, NO_LISTS, NOTHING, ONLY_RED
from tests.test_questions import DEEP, RED, WIDE, no_questions
from tickcounts.errors import InvalidItem, InvalidList, InvalidNumber, InvalidShop
from tickcounts.shops import Shop
from tickcounts.spans import fewest, follows

NO_NUMBERS = [
    None, True, False, -1, -10 ** 999, "1", "", [], [1], (1,), {}, {1: 1}, RED, helper.shop(), helper.rule(),
    helper.library(),
]


class TestFewest(helper.Checks, unittest.TestCase):
    def assert_fewest(self, groups, given, prices):
        told = fewest(Shop(groups), given, prices)
        self.assertEqual(told, asked.plain_fewest(groups, given, prices))
        self.assertIs(told.__class__, list)
        self.assertEqual([place.__class__ for place in told], [int] * len(told))
        return told

    def test_example_of_the_document(self):
        told = fewest(helper.shop(), [ALL_OF, ONLY_RED, BLUE, EITHER, BOTH], [1, 1, 1, 5, 1])
        self.assertEqual(told, [0, 1, 2, 4])

    def test_against_a_walk_through_all_lots(self):
        chance, lengths = random.Random(70), set()
        for groups in helper.small_shops():
            for many in range(7):
                for prices in (2, 4, 100):
                    given = asked.questions(groups, chance, many)
                    told = self.assert_fewest(groups, given, [chance.randrange(prices) for _ in given])
                    lengths.add((many, len(told)))
        self.assertGreater(len(lengths), 15)

    def test_doubled_questions(self):
        chance = random.Random(71)
        for groups in helper.small_shops():
            given = asked.questions(groups, chance, 3)
            for order in ([0, 0, 1, 1], [0, 1, 2, 2, 1, 0], [2, 2, 2, 2, 2], [0, 1, 0, 2]):
                lot = [given[place] for place in order]
                self.assert_fewest(groups, lot, [1] * len(lot))
                self.assert_fewest(groups, lot, list(range(len(lot)))[::-1])
                self.assert_fewest(groups, lot, [chance.randrange(3) for _ in lot])

    def test_prices(self):
        given, large = [EITHER, BOTH, ONLY_RED, BLUE], 10 ** 20
        shop = helper.shop()
        for prices, told in (
            ([0] * 4, [0, 1, 2]), ([5] * 4, [0, 1, 2]), ([large] * 4, [0, 1, 2]), ([1, 0, 0, 0], [1, 2, 3]),
            ([large + 1, large, large, large], [1, 2, 3]), ([large, large + 1, large, large], [0, 2, 3]),
            ([0, 1, 2, 1], [0, 1, 3]), ([10 ** 999, 10 ** 999 - 1, 10 ** 999, 0], [0, 1, 3]), ([3, 3, 2, 3], [0, 1, 2]),
        ):
            with self.subTest(prices=prices):
                self.assertEqual(fewest(shop, given, prices), told)
                self.assertEqual(self.assert_fewest(helper.GROUPS, given, prices), told)

    def test_fewer_come_ahead_of_cheaper(self):
        # All that is asked for follows from one question: however dear, it has to be taken, but no free one besides.
        self.assertEqual(fewest(helper.shop(), [NOTHING, BLUE, NOTHING], [0, 10 ** 20, 0]), [1])
        self.assertEqual(fewest(helper.shop(), [BLUE, BLUE], [7, 6]), [1])

    def test_none_and_those_that_always_are_0(self):
        self.assertEqual(fewest(helper.shop(), [], []), [])
        self.assertEqual(fewest(helper.shop(), [NOTHING, NOTHING], [0, 1]), [])

    def test_twelve_questions(self):
        chance = random.Random(72)
        for groups in (DEEP[1:], WIDE[1:], DEEP[:2]):
            for _ in range(4):
                given = asked.questions(groups, chance, 8, 0.3, 0.1)
                given = chance.sample([*given, *given[:4]], 12)
                prices = [chance.choice([0, 1, 2, 10 ** 20]) for _ in given]
                shop, told = Shop(groups), fewest(Shop(groups), given, prices)
                self.assertLessEqual(len(told), 8)
                columns = [asked.column(groups, one) for one in given]
                whole = asked.rank(columns)
                # Cheaper ones first, each that does not follow from those taken.
                taken = []
                for _, place in sorted(zip(prices, range(12))):
                    lot = [*taken, place]
                    if asked.rank([columns[one] for one in lot]) == len(lot):
                        taken = lot
                self.assertEqual((told, len(told)), (sorted(taken), whole))
                if len(told) <= 6:
                    for wanted in given:
                        self.assertEqual(follows(shop, [given[place] for place in told], wanted)[0], "sum")

    def test_bracket_behind_53(self):
        """Lots of the questions for all boxes from which all of these follow."""
        for kinds in itertools.product([("or", "one"), ("and", "many"), ("and", "one"), ("or", "many")], repeat=2):
            for boxes in ([2, 1], [1, 3], [2, 2]):
                groups = [(name, *kind, list("xyz")[:many]) for name, kind, many in zip("ab", kinds, boxes)]
                shop, given = Shop(groups), asked.box_questions(groups)
                right = []
                for lot in helper.subsets(range(len(given))):
                    told = all(follows(shop, [given[place] for place in lot], one)[0] == "sum" for one in given)
                    self.assertIs(told, self.holds_enough(groups, lot))
                    right.extend([lot] * told)
                self.assertEqual(fewest(shop, given, [1] * len(given)), min(right, key=lambda lot: (len(lot), lot)))

    def holds_enough(self, groups, lot):
        """What the bracket says of a lot of the places of boxes."""
        place, left_out = 0, []
        for _, _, bears, boxes in groups:
            left_out.append((bears, sum(at not in lot for at in range(place, place + len(boxes)))))
            place += len(boxes)
        ones = [many for bears, many in left_out if bears == "one"]
        return all(many == 0 for bears, many in left_out if bears == "many") and (not ones or (
            max(ones) <= 1 and min(ones) == 0))

    def test_the_largest_shops_within_seconds(self):
        chance, began = random.Random(73), time.monotonic()
        for groups in (WIDE, DEEP):
            for _ in range(10):
                fewest(Shop(groups), asked.questions(groups, chance, 12), [chance.randrange(3) for _ in range(12)])
        given = asked.box_questions(DEEP)
        self.assertEqual(fewest(Shop(DEEP), given, [10 ** 20] * 12), list(range(12)))
        self.assertEqual(fewest(Shop(DEEP), [*given[1:], given[1]], [1] * 11 + [0]), [*range(1, 12)])
        self.assertLess(time.monotonic() - began, 5)

    def test_wrong_arguments_in_order(self):
        shop, given, prices = helper.shop(), [RED, BLUE], [1, 2]
        for value in helper.wrong_shops():
            self.assert_raised(InvalidShop, value, fewest, value, given, prices)
            self.assert_raised(InvalidShop, value, fewest, value, None, None)
        for value in [*NO_LISTS, helper.shop(), helper.library()]:
            self.assert_raised(InvalidList, value, fewest, shop, value, prices)
            self.assert_raised(InvalidList, value, fewest, shop, value, None)
            self.assert_raised(InvalidList, value, fewest, shop, given, value)
        for value in ([], [1], [1, 2, 3], [None], [None] * 3, (1, 2), {0: 1, 1: 2}, "12"):
            self.assert_raised(InvalidList, value, fewest, shop, given, value)
            self.assert_raised(InvalidList, value, fewest, shop, [*given, *given], value)
        for value in no_questions():
            self.assert_raised(InvalidItem, value, fewest, shop, [RED, value], prices)
            self.assert_raised(InvalidItem, value, fewest, shop, [value, ["no"]], None)
        for value in NO_NUMBERS:
            self.assert_raised(InvalidNumber, value, fewest, shop, given, [value, 1])
            self.assert_raised(InvalidNumber, value, fewest, shop, given, [1, value])
            self.assert_raised(InvalidNumber, value, fewest, shop, given, [value, ["none"]])


if __name__ == "__main__":
    unittest.main()
