"""The class Shop: document point [10]."""

import copy
import unittest

from tests import helper
from tickcounts.errors import InvalidItem, InvalidList, UnknownName
from tickcounts.shops import Shop

GOOD = ("hue", "or", "many", ["red", "blue"])
LONG = "abcdefgh"


def four():
    return [
        ("hue", "or", "many", ["red", "blue", "tan"]),
        ("size", "and", "one", ["s"]),
        (LONG, "and", "many", ["hue", "size", "red", LONG, "z"]),
        ("z", "or", "one", ["s", "m"]),
    ]


class TestShop(helper.Checks, unittest.TestCase):
    def test_shops_of_one_to_four_groups(self):
        for many in range(1, 5):
            with self.subTest(many=many):
                shop = Shop(four()[:many])
                self.assertEqual(shop.groups(), four()[:many])
                self.assertEqual(shop.names(), ["hue", "size", LONG, "z"][:many])

    def test_each_mode_and_amount(self):
        for mode in ("or", "and"):
            for bears in ("one", "many"):
                groups = [("a", mode, bears, ["b"])]
                self.assertEqual(Shop(groups).groups(), groups)

    def test_kinds_of_what_is_told(self):
        told = Shop(four()).groups()
        self.assertIs(told.__class__, list)
        for group in told:
            self.assertIs(group.__class__, tuple)
            self.assertIs(group[3].__class__, list)

    def test_boxes_of_each_group_as_given(self):
        shop = Shop(four())
        self.assertEqual(shop.boxes("hue"), ["red", "blue", "tan"])
        self.assertEqual(shop.boxes("size"), ["s"])
        self.assertEqual(shop.boxes(LONG), ["hue", "size", "red", LONG, "z"])
        self.assertEqual(shop.boxes("z"), ["s", "m"])
        self.assertEqual(shop.boxes(group="z"), ["s", "m"])

    def test_groups_by_name(self):
        self.assertEqual(Shop(groups=[GOOD]), Shop([GOOD]))

    def test_unknown_names_of_boxes(self):
        shop = Shop(four())
        for value in [*helper.odd_values(), "red", "tan", "s", "Hue", "hue ", "hu", ["hue"], ("hue",), GOOD, shop]:
            with self.subTest(value=value):
                self.assert_raised(UnknownName, value, shop.boxes, value, field="name")

    def test_unknown_list_is_told_itself(self):
        value = ["hue"]
        self.assert_raised(UnknownName, value, helper.shop().boxes, value, field="name")

    def test_no_list_and_lists_of_no_items_or_five(self):
        five = [*four(), ("y", "or", "one", ["a"])]
        wrong = [value for value in helper.odd_values() if not isinstance(value, list)]
        for value in [*wrong, [], (GOOD,), {"hue": GOOD}, five, [None] * 5, helper.shop()]:
            with self.subTest(value=value):
                self.assert_raised(InvalidList, value, Shop, value)

    def test_groups_that_are_none(self):
        for value in self.bad_groups():
            with self.subTest(value=value):
                self.assert_raised(InvalidItem, value, Shop, [value])
                self.assert_raised(InvalidItem, value, Shop, [GOOD, value])
                self.assert_raised(InvalidItem, value, Shop, [GOOD, value, GOOD, None])

    def bad_groups(self):
        bad = [*helper.odd_values(), list(GOOD), "hue", dict(enumerate(GOOD)), helper.shop()]
        bad.extend([GOOD[:3], (*GOOD, "more"), GOOD[:1], (GOOD,)])
        names = [None, 1, True, "", "abcdefghi", "Hue", "h e", "hue\n", "h1", "h_", "\u00e9", "\uff41", ["hue"],
                 ("hue",), helper.shop()]
        bad.extend([(name, "or", "many", ["red"]) for name in names])
        words = [None, 0, True, "", "OR", "xor", "or ", "one", ["or"], ("or",), {}, helper.shop()]
        bad.extend([("aa", mode, "many", ["red"]) for mode in words])
        words = [None, 1, True, False, "", "One", "none", "or", "two", ["one"], ("one",), {}, helper.shop()]
        bad.extend([("aa", "or", bears, ["red"]) for bears in words])
        boxes = [None, 1, True, "red", ("red",), {"red": True}, [], ["a", "b", "c", "d", "e", "f"], ["red", "red"],
                 ["a", "b", "a"], ["red", ""], ["red", None], [1], [True], ["Red"], ["abcdefghi"], [["red"]],
                 [("red",)], [{}], ["red", "bl ue"], ["r\u00e9d"], [helper.shop()], helper.shop()]
        bad.extend([("aa", "or", "many", listed) for listed in boxes])
        return bad

    def test_name_of_a_group_ahead(self):
        again = ("hue", "and", "one", ["s"])
        self.assert_raised(InvalidItem, again, Shop, [GOOD, again])
        self.assert_raised(InvalidItem, again, Shop, [GOOD, ("size", "or", "one", ["s"]), again])
        self.assert_raised(InvalidItem, again, Shop, [("size", "or", "one", ["s"]), GOOD, again, GOOD])
        twin = ("hue", "or", "many", ["red", "blue"])
        self.assert_raised(InvalidItem, twin, Shop, [GOOD, twin])

    def test_first_bad_item_is_told(self):
        first, second = ("hue", "xor", "one", ["s"]), ["no group"]
        self.assert_raised(InvalidItem, first, Shop, [first, second])
        self.assert_raised(InvalidItem, second, Shop, [second, first])
        again = ("hue", "or", "one", ["s"])
        self.assert_raised(InvalidItem, again, Shop, [GOOD, again, first])
        self.assert_raised(InvalidItem, first, Shop, [GOOD, first, again])

    def test_names_may_stand_again_elsewhere(self):
        groups = [("a", "or", "one", ["a", "b"]), ("b", "or", "one", ["a", "b"])]
        self.assertEqual(Shop(groups).groups(), groups)

    def test_longest_and_shortest_names_and_five_boxes(self):
        groups = [(LONG, "or", "many", ["a", LONG, "z", "zz", "azazazaz"])]
        self.assertEqual(Shop(groups).groups(), groups)

    def test_largest_shop_can_be_made(self):
        groups = [(name, "or", "many", ["a", "b", "c", "d", "e"]) for name in "abcd"]
        self.assertEqual(Shop(groups).groups(), groups)


class TestEqualShops(unittest.TestCase):
    def assert_unlike(self, one, other):
        self.assertIs(one == other, False)
        self.assertIs(other == one, False)
        self.assertIs(one != other, True)

    def test_equal_lists(self):
        one, other = Shop(four()), Shop(four())
        self.assertIs(one == other, True)
        self.assertIs(one != other, False)
        self.assertIs(one == one, True)

    def test_unlike_lists(self):
        group = ("hue", "or", "many", ["red", "blue"])
        others = [
            [("hut", "or", "many", ["red", "blue"])],
            [("hue", "and", "many", ["red", "blue"])],
            [("hue", "or", "one", ["red", "blue"])],
            [("hue", "or", "many", ["blue", "red"])],
            [("hue", "or", "many", ["red"])],
            [("hue", "or", "many", ["red", "blue", "tan"])],
            [group, ("size", "or", "one", ["s"])],
        ]
        for groups in others:
            with self.subTest(groups=groups):
                self.assert_unlike(Shop([group]), Shop(groups))

    def test_order_of_groups_counts(self):
        self.assert_unlike(Shop(four()), Shop(four()[::-1]))

    def test_other_objects(self):
        shop = helper.shop()
        others = [*helper.odd_values(), shop.groups(), shop.names(), tuple(shop.groups()), [shop], (shop,), object()]
        for other in others:
            with self.subTest(other=other):
                self.assert_unlike(shop, other)


class TestListsOfShops(helper.Checks, unittest.TestCase):
    def test_list_changed_behind_the_call(self):
        given = four()
        shop = Shop(given)
        given[0][3].append("new")
        given[2][3].clear()
        given.pop()
        self.assertEqual(shop.groups(), four())
        self.assertEqual(shop.names(), ["hue", "size", LONG, "z"])
        self.assertEqual(shop.boxes("hue"), ["red", "blue", "tan"])
        self.assertEqual(shop, Shop(four()))

    def test_list_is_not_changed(self):
        given = four()
        inner = [group[3] for group in given]
        Shop(given)
        self.assertEqual(given, four())
        self.assertTrue(all(group[3] is boxes for group, boxes in zip(given, inner)))

    def test_list_of_a_refused_call_is_not_changed(self):
        given = [*four()[:2], ("size", "or", "one", ["a"])]
        kept = copy.deepcopy(given)
        with self.assertRaises(InvalidItem):
            Shop(given)
        self.assertEqual(given, kept)

    def test_told_lists_are_free(self):
        given = four()
        shop = Shop(given)
        self.assert_free(shop.groups)
        self.assert_free(shop.names)
        self.assert_free(shop.boxes, "hue")
        self.assert_own(shop.groups(), given)
        self.assertIsNot(shop.boxes("hue"), shop.boxes("hue"))
        self.assertEqual(shop, Shop(four()))

    def test_told_lists_are_unlike_objects_where_the_given_ones_are_one(self):
        boxes = ["a", "b"]
        shop = Shop([("x", "or", "one", boxes), ("y", "and", "many", boxes)])
        self.assert_own(shop.groups(), boxes)
        shop.groups()[0][3].append("c")
        self.assertEqual(shop.boxes("y"), ["a", "b"])

    def test_a_list_that_gave_one_shop_can_give_another(self):
        given = [("x", "or", "one", ["a"])]
        one = Shop(given)
        given[0][3].append("b")
        other = Shop(given)
        self.assertEqual((one.boxes("x"), other.boxes("x")), (["a"], ["a", "b"]))
        self.assertFalse(one == other)

    def test_told_groups_make_an_equal_shop(self):
        shop = Shop(four())
        self.assertEqual(Shop(shop.groups()), shop)


if __name__ == "__main__":
    unittest.main()
