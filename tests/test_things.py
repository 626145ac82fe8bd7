"""Things, ticks and meeting: document points [11] and [12]."""

import itertools
import time
import unittest

from tests import helper
from tickcounts.errors import InvalidShop, InvalidThing, InvalidTicks
from tickcounts.shops import Shop, all_things, is_thing, is_ticks, meets, met

MIXED = [("hue", "or", "many", ["red", "blue", "tan"]), ("size", "and", "one", ["s", "m"])]

# No ticks of MIXED, and so no things of it either.
NEVER = [
    [],
    [["red"]],
    [["red"], ["s"], []],
    [["red"], ["s"], ["s"]],
    [["red", "red"], ["s"]],
    [["red", "blue", "red"], ["s"]],
    [["red"], ["s", "s"]],
    [["blue", "red"], ["s"]],
    [["tan", "blue"], ["s"]],
    [["red", "tan", "blue"], ["s"]],
    [["red"], ["m", "s"]],
    [["s"], ["s"]],
    [["red", "s"], ["s"]],
    [["red", "blue", "tan", "dun"], ["s"]],
    [["s"], ["red"]],
    [["red"], ["l"]],
    [["Red"], ["s"]],
    [["hue"], ["s"]],
    [["red"], "s"],
    ["red", ["s"]],
    ["red", "s"],
    [("red",), ["s"]],
    [["red"], ("s",)],
    [("red",), ("s",)],
    (["red"], ["s"]),
    {0: ["red"], 1: ["s"]},
    {"hue": ["red"], "size": ["s"]},
    [{"red": True}, ["s"]],
    [["red"], {"s": True}],
    [["red"], None],
    [None, ["s"]],
    [[None], ["s"]],
    [[True], ["s"]],
    [[0], ["s"]],
    [["red", None], ["s"]],
    [["red", True], ["s"]],
    [["red", 1], ["s"]],
    [[["red"]], ["s"]],
    [[("red",)], ["s"]],
    [["red"], [["s"]]],
    [["red"], True],
    [1, 2],
    [True, False],
    "red",
    [[["red"], ["s"]]],
]


class TestIsThingAndIsTicks(helper.Checks, unittest.TestCase):
    def test_what_is_neither(self):
        shop = Shop(MIXED)
        for value in [*NEVER, *helper.odd_values(), shop, [shop, shop], [["red", shop], ["s"]]]:
            with self.subTest(value=value):
                self.assertIs(is_ticks(shop, value), False)
                self.assertIs(is_thing(shop, value), False)

    def test_every_row_of_some_boxes_in_any_order(self):
        shop = Shop(MIXED)
        rows = [
            list(row)
            for many in range(5)
            for row in itertools.product(["red", "blue", "tan"], repeat=many)
        ]
        good = helper.subsets(["red", "blue", "tan"])
        for row in rows:
            with self.subTest(row=row):
                self.assertIs(is_ticks(shop, [row, ["s"]]), row in good)
                self.assertIs(is_thing(shop, [row, ["s"]]), row in good)

    def test_one_and_many_for_things_and_ticks(self):
        for groups in helper.small_shops():
            shop, things = Shop(groups), helper.every_thing(groups)
            for value in helper.every_ticks(groups):
                with self.subTest(groups=groups, value=value):
                    self.assertIs(is_ticks(shop, value), True)
                    self.assertIs(is_thing(shop, value), value in things)

    def test_a_group_with_one_has_just_one_box_of_a_thing(self):
        shop = Shop(MIXED)
        self.assertFalse(is_thing(shop, [["red"], []]))
        self.assertFalse(is_thing(shop, [["red"], ["s", "m"]]))
        self.assertTrue(is_thing(shop, [["red", "blue"], ["m"]]))
        self.assertTrue(is_thing(shop, [[], ["m"]]))

    def test_the_same_box_name_in_two_groups(self):
        shop = Shop([("a", "or", "one", ["x", "y"]), ("b", "or", "many", ["y", "x"])])
        self.assertTrue(is_thing(shop, [["x"], ["y", "x"]]))
        self.assertFalse(is_thing(shop, [["x"], ["x", "y"]]))

    def test_told_for_the_shop_that_is_passed(self):
        small = Shop([("hue", "or", "many", ["red"])])
        self.assertTrue(is_ticks(small, [["red"]]))
        self.assertFalse(is_ticks(Shop(MIXED), [["red"]]))
        self.assertFalse(is_ticks(small, [["red"], ["s"]]))

    def test_by_name(self):
        self.assertIs(is_thing(shop=Shop(MIXED), value=[[], ["s"]]), True)
        self.assertIs(is_ticks(shop=Shop(MIXED), value=[[], []]), True)

    def test_invalid_shop(self):
        for value in helper.wrong_shops():
            with self.subTest(value=value):
                self.assert_raised(InvalidShop, value, is_thing, value, [[], ["s"]])
                self.assert_raised(InvalidShop, value, is_ticks, value, [[], []])
                self.assert_raised(InvalidShop, value, is_ticks, value, None)

    def test_value_stays(self):
        shop = Shop(MIXED)
        for value in [[["red"], ["s"]], *[value for value in NEVER if isinstance(value, list)]]:
            self.assert_free(is_thing, shop, value)
            self.assert_free(is_ticks, shop, value)
        self.assertEqual(shop.groups(), MIXED)


class TestAllThings(helper.Checks, unittest.TestCase):
    def test_in_order_for_each_kind_of_shop(self):
        for groups in helper.small_shops():
            with self.subTest(groups=groups):
                told = all_things(Shop(groups))
                self.assertEqual(told, sorted(helper.every_thing(groups)))

    def test_one(self):
        shop = Shop([("a", "and", "one", ["z", "b", "c"])])
        self.assertEqual(all_things(shop), [[["b"]], [["c"]], [["z"]]])

    def test_many(self):
        shop = Shop([("a", "or", "many", ["z", "b"])])
        self.assertEqual(all_things(shop), [[[]], [["b"]], [["z"]], [["z", "b"]]])

    def test_shop_of_the_document(self):
        self.assertEqual(all_things(helper.shop()), [
            [[], ["m"]], [[], ["s"]], [["blue"], ["m"]], [["blue"], ["s"]], [["red"], ["m"]], [["red"], ["s"]],
            [["red", "blue"], ["m"]], [["red", "blue"], ["s"]],
        ])

    def test_four_groups(self):
        groups = [
            ("d", "or", "many", ["b", "a"]), ("c", "and", "one", ["b", "a"]), ("b", "or", "one", ["q"]),
            ("a", "and", "many", ["x"]),
        ]
        told = all_things(Shop(groups))
        self.assertEqual(told, sorted(helper.every_thing(groups)))
        self.assertEqual(len(told), 16)

    def test_each_is_a_thing(self):
        shop = helper.shop()
        self.assertTrue(all(is_thing(shop, thing) for thing in all_things(shop)))

    def test_no_list_twice_and_all_free(self):
        for groups in helper.small_shops():
            self.assert_free(all_things, Shop(groups))

    def test_the_most_things(self):
        groups = [
            ("a", "or", "many", list("edcba")), ("b", "and", "many", list("vwxyz")), ("c", "or", "many", ["q", "p"]),
        ]
        began = time.monotonic()
        told = all_things(Shop(groups))
        self.assertLess(time.monotonic() - began, 5)
        self.assertEqual(len(told), 4096)
        self.assertEqual(told, sorted(helper.every_thing(groups)))
        self.assert_own(told)

    def test_by_name_and_invalid_shop(self):
        self.assertEqual(len(all_things(shop=helper.shop())), 8)
        for value in helper.wrong_shops():
            with self.subTest(value=value):
                self.assert_raised(InvalidShop, value, all_things, value)


class TestMeeting(helper.Checks, unittest.TestCase):
    def test_all_things_and_ticks_of_small_shops(self):
        for groups in helper.small_shops():
            shop = Shop(groups)
            for thing in helper.every_thing(groups):
                for ticks in helper.every_ticks(groups):
                    wanted = helper.plainly_meets(groups, thing, ticks)
                    told = met(shop, thing, ticks)
                    self.assertEqual(told, wanted)
                    self.assertTrue(all(one is True or one is False for one in told))
                    self.assertIs(meets(shop, thing, ticks), all(wanted))

    def test_or(self):
        shop = Shop([("a", "or", "many", ["x", "y", "z"])])
        self.assertEqual(met(shop, [["x", "y"]], [["y", "z"]]), [True])
        self.assertEqual(met(shop, [["x"]], [["x", "y", "z"]]), [True])
        self.assertEqual(met(shop, [["x"]], [["y", "z"]]), [False])
        self.assertEqual(met(shop, [[]], [["x", "y", "z"]]), [False])
        self.assertEqual(met(shop, [[]], [[]]), [True])

    def test_and(self):
        shop = Shop([("a", "and", "many", ["x", "y", "z"])])
        self.assertEqual(met(shop, [["x", "y"]], [["y", "z"]]), [False])
        self.assertEqual(met(shop, [["x", "y", "z"]], [["x", "z"]]), [True])
        self.assertEqual(met(shop, [["x", "y", "z"]], [["x", "y", "z"]]), [True])
        self.assertEqual(met(shop, [["x"]], [["x", "y", "z"]]), [False])
        self.assertEqual(met(shop, [[]], [["x"]]), [False])
        self.assertEqual(met(shop, [[]], [[]]), [True])

    def test_two_ticks_in_a_group_with_one(self):
        both = [["x", "y"]]
        self.assertTrue(meets(Shop([("a", "or", "one", ["x", "y"])]), [["y"]], both))
        self.assertFalse(meets(Shop([("a", "and", "one", ["x", "y"])]), [["y"]], both))

    def test_each_group_on_its_own(self):
        shop = helper.shop()
        self.assertEqual(met(shop, [["red"], ["s"]], [["blue"], ["s"]]), [False, True])
        self.assertEqual(met(shop, [["red"], ["s"]], [["red"], ["m"]]), [True, False])
        self.assertEqual(met(shop, [["red"], ["s"]], [["blue"], ["m"]]), [False, False])
        self.assertIs(meets(shop, [["red"], ["s"]], [["red"], ["m"]]), False)
        self.assertIs(meets(shop, [["red"], ["s"]], [["red", "blue"], ["s"]]), True)

    def test_the_same_box_name_in_two_groups(self):
        shop = Shop([("a", "or", "many", ["x"]), ("b", "or", "many", ["x"])])
        self.assertEqual(met(shop, [["x"], []], [["x"], ["x"]]), [True, False])

    def test_by_name(self):
        given = {"shop": helper.shop(), "thing": [["red"], ["s"]], "ticks": [["red"], []]}
        self.assertEqual(met(**given), [True, True])
        self.assertIs(meets(**given), True)

    def test_wrong_shops_things_and_ticks(self):
        shop, thing, ticks = Shop(MIXED), [["red"], ["s"]], [["red"], []]
        for call in (met, meets):
            for value in helper.wrong_shops():
                self.assert_raised(InvalidShop, value, call, value, thing, ticks)
            for value in [*NEVER, *helper.odd_values(), [["red"], []], [["red"], ["s", "m"]], shop]:
                self.assert_raised(InvalidThing, value, call, shop, value, ticks)
            for value in [*NEVER, *helper.odd_values(), shop]:
                self.assert_raised(InvalidTicks, value, call, shop, thing, value)

    def test_order_of_the_errors(self):
        for call in (met, meets):
            self.assert_raised(InvalidShop, None, call, None, None, None)
            self.assert_raised(InvalidShop, None, call, None, [[], ["s"]], [[]])
            self.assert_raised(InvalidThing, "no", call, helper.shop(), "no", "none")
            self.assert_raised(InvalidTicks, "no", call, helper.shop(), [[], ["s"]], "no")

    def test_arguments_stay_and_answers_are_free(self):
        shop = helper.shop()
        for call in (met, meets):
            self.assert_free(call, shop, [["red"], ["s"]], [["red", "blue"], ["m"]])
        self.assertEqual(shop, helper.shop())


if __name__ == "__main__":
    unittest.main()
