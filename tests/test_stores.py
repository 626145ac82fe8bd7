"""Stores and what is found: document points [15] and [16]."""

import itertools
import random
import time
import unittest

from tests import helper
from tickcounts.errors import InvalidShop, InvalidStore, InvalidTicks
from tickcounts.shops import Shop, meets
from tickcounts.stores import dead, hits, idle, is_store, models

FOUND = (hits, models, dead, idle)

# No stores of the shop of the document.
NEVER = [
    None, True, 0, "cup", (), {}, {"cup": [["red"], ["s"]]},
    (("cup", [["red"], ["s"]]),),
    ("cup", [["red"], ["s"]]),
    [None], [0], [True], ["cup"], [[]], [()], [{}],
    [["cup", [["red"], ["s"]]]],
    [("cup",)],
    [([["red"], ["s"]],)],
    [([["red"], ["s"]], "cup")],
    [("cup", [["red"], ["s"]], 1)],
    [("cup", [["red"], ["s"]], [["red"], ["s"]])],
    [("", [["red"], ["s"]])],
    [("Cup", [["red"], ["s"]])],
    [("cups cup", [["red"], ["s"]])],
    [("abcdefghi", [["red"], ["s"]])],
    [("cup1", [["red"], ["s"]])],
    [("cup\n", [["red"], ["s"]])],
    [("c\u00fcp", [["red"], ["s"]])],
    [(None, [["red"], ["s"]])],
    [(1, [["red"], ["s"]])],
    [(True, [["red"], ["s"]])],
    [(["cup"], [["red"], ["s"]])],
    [(("cup",), [["red"], ["s"]])],
    [("cup", None)],
    [("cup", "red")],
    [("cup", [])],
    [("cup", [["red"]])],
    [("cup", [["red"], []])],
    [("cup", [["red"], ["s", "m"]])],
    [("cup", [["red"], ["s"], []])],
    [("cup", [["blue", "red"], ["s"]])],
    [("cup", [["red", "red"], ["s"]])],
    [("cup", [["tan"], ["s"]])],
    [("cup", [("red",), ["s"]])],
    [("cup", (["red"], ["s"]))],
    [("cup", [["red"], [None]])],
    [("cup", [["red"], ["s"]]), None],
    [("cup", [["red"], ["s"]]), ("cup", [["red"], []])],
    [("cup", []), ("cup", [["red"], ["s"]])],
]


# A shop and a store of some ten items, of which each bears boxes in each of four groups.
WIDE = [
    ("hue", "or", "many", ["a", "b", "c", "d"]), ("size", "and", "many", ["e", "f", "g", "h"]),
    ("make", "or", "many", ["i", "j", "k", "l"]), ("x", "and", "one", ["m", "n", "o", "p"]),
]


def wide_store():
    return [("cup", [list("abcd"), list("efgh"), list("ijkl"), ["m"]]) for _ in range(12)]


def plain_hits(groups, store, ticks):
    return [at for at, (_, thing) in enumerate(store) if all(helper.plainly_meets(groups, thing, ticks))]


def without_box(ticks, at, box):
    return [[one for one in row if place != at or one != box] for place, row in enumerate(ticks)]


def plain_dead(groups, store, ticks):
    return [
        (group[0], box)
        for at, group in enumerate(groups) for box in group[3]
        if box not in ticks[at] and plain_hits(groups, store, helper.with_box(groups, ticks, at, box)) == []
    ]


def plain_idle(groups, store, ticks):
    found = plain_hits(groups, store, ticks)
    return [
        (group[0], box)
        for at, group in enumerate(groups) for box in group[3]
        if box in ticks[at] and plain_hits(groups, store, without_box(ticks, at, box)) == found
    ]


class TestIsStore(helper.Checks, unittest.TestCase):
    def test_stores(self):
        shop = helper.shop()
        item = ("cup", [["red"], ["s"]])
        for value in [[], helper.store(), [item], [item, item], [("abcdefgh", [[], ["m"]]), ("a", [[], ["m"]])]]:
            with self.subTest(value=value):
                self.assertIs(is_store(shop, value), True)

    def test_every_thing_of_a_model(self):
        for groups in helper.small_shops():
            self.assertIs(is_store(Shop(groups), [("a", thing) for thing in helper.every_thing(groups)]), True)

    def test_what_is_none(self):
        shop = helper.shop()
        for value in [*NEVER, *helper.odd_values(), shop, [shop], [("cup", shop)], [(shop, [[], ["m"]])]]:
            with self.subTest(value=value):
                self.assertIs(is_store(shop, value), False)

    def test_one_bad_item_in_any_place_of_a_store(self):
        shop, good = Shop(WIDE), wide_store()
        self.assertIs(is_store(shop, good), True)
        bad_rows = [None, 0, True, "", "a", {}, (), [None], [[]], ["q"], ["m", "n"], ["b", "a"], ["a", "a"], ("a",)]
        for place in (0, 5, 11):
            for at in range(4):
                for row in bad_rows:
                    value = wide_store()
                    value[place][1][at] = row
                    self.assertIs(is_store(shop, value), False)
            thing = good[0][1]
            for item in (
                None, "cup", [], (), ("cup",), ["cup", thing], ("Cup", thing), ("cup", thing[:3]),
                ("cup", tuple(thing)), ("cup", [*thing, []]), ("cup", None), ("cup", thing, 1),
            ):
                self.assertIs(is_store(shop, [*good[:place], item, *good[place + 1:]]), False)

    def test_rows_of_each_group_of_a_store(self):
        shop = Shop(WIDE)
        for at, (_, _, bears, boxes) in enumerate(WIDE):
            for row in helper.subsets(boxes):
                value = wide_store()
                value[7][1][at] = row
                self.assertIs(is_store(shop, value), bears == "many" or len(row) == 1)
                value[7][1][at] = [*row[::-1], "z"]
                self.assertIs(is_store(shop, value), False)

    def test_told_for_the_shop_that_is_passed(self):
        value = [("a", [["x"]])]
        self.assertTrue(is_store(Shop([("g", "or", "one", ["x"])]), value))
        self.assertFalse(is_store(Shop([("g", "or", "one", ["y"])]), value))
        self.assertFalse(is_store(helper.shop(), value))

    def test_invalid_shop(self):
        for value in helper.wrong_shops():
            with self.subTest(value=value):
                self.assert_raised(InvalidShop, value, is_store, value, [])
                self.assert_raised(InvalidShop, value, is_store, value, None)

    def test_by_name_and_value_stays(self):
        self.assertIs(is_store(shop=helper.shop(), value=[]), True)
        self.assert_free(is_store, helper.shop(), helper.store())
        self.assert_free(is_store, helper.shop(), [["cup", [["red"], ["s"]]]])


class TestFound(helper.Checks, unittest.TestCase):
    def test_example_of_the_document(self):
        shop = Shop([("hue", "or", "many", ["red", "blue"]), ("size", "and", "one", ["s", "m"])])
        store = [("cup", [["red"], ["s"]]), ("cup", [["red", "blue"], ["m"]]), ("jug", [[], ["m"]])]
        ticks = [["red"], []]
        told = [
            meets(shop, [["red"], ["s"]], [["blue"], []]), hits(shop, store, ticks), models(shop, store, ticks),
            dead(shop, store, [["blue"], []]), idle(shop, store, [["red", "blue"], ["m"]]),
        ]
        self.assertEqual(told, [False, [0, 1], ["cup"], [("size", "s")], [("hue", "red"), ("hue", "blue")]])

    def test_many_stores_against_the_plain_words(self):
        chance = random.Random(7)
        for groups in helper.small_shops():
            shop = Shop(groups)
            for store, ticks in itertools.product(helper.stores_of(groups, chance), helper.every_ticks(groups)):
                found = plain_hits(groups, store, ticks)
                self.assertEqual(hits(shop, store, ticks), found)
                self.assertEqual(models(shop, store, ticks), sorted({store[at][0] for at in found}))
                self.assertEqual(dead(shop, store, ticks), plain_dead(groups, store, ticks))
                self.assertEqual(idle(shop, store, ticks), plain_idle(groups, store, ticks))

    def test_stores_of_some_ten_items_in_four_groups(self):
        chance, shop = random.Random(8), Shop(WIDE)
        rows = [helper.subsets(group[3]) for group in WIDE]
        for many in (0, 1, 2, 4, 12, 12):
            things = [
                [*[chance.choice(some) for some in rows[:3]], [chance.choice("mnop")]] for _ in range(many)
            ]
            store = [(chance.choice(["cup", "jug", "pot"]), thing) for thing in things]
            for given in (store, wide_store()):
                for _ in range(60):
                    ticks = [chance.choice([[], chance.choice(some)]) for some in rows]
                    found = plain_hits(WIDE, given, ticks)
                    self.assertEqual(hits(shop, given, ticks), found)
                    self.assertEqual(models(shop, given, ticks), sorted({given[at][0] for at in found}))
                    self.assertEqual(dead(shop, given, ticks), plain_dead(WIDE, given, ticks))
                    self.assertEqual(idle(shop, given, ticks), plain_idle(WIDE, given, ticks))

    def test_nothing_ticked_finds_all(self):
        self.assertEqual(hits(helper.shop(), helper.store(), [[], []]), [0, 1, 2])
        self.assertEqual(models(helper.shop(), helper.store(), [[], []]), ["cup", "jug"])
        self.assertEqual(idle(helper.shop(), helper.store(), [[], []]), [])

    def test_empty_store(self):
        shop, ticks = helper.shop(), [["blue"], ["m"]]
        self.assertEqual(hits(shop, [], ticks), [])
        self.assertEqual(models(shop, [], ticks), [])
        self.assertEqual(dead(shop, [], ticks), [("hue", "red"), ("size", "s")])
        self.assertEqual(idle(shop, [], ticks), [("hue", "blue"), ("size", "m")])
        self.assertEqual(dead(shop, [], [[], []]), [("hue", "red"), ("hue", "blue"), ("size", "s"), ("size", "m")])
        self.assertEqual(idle(shop, [], [[], []]), [])
        every = [["red", "blue"], ["s", "m"]]
        self.assertEqual(dead(shop, [], every), [])
        self.assertEqual(idle(shop, [], every), [("hue", "red"), ("hue", "blue"), ("size", "s"), ("size", "m")])

    def test_equal_items_are_found_each(self):
        store = [("cup", [["red"], ["s"]]), ("jug", [[], ["s"]]), ("cup", [["red"], ["s"]])]
        self.assertEqual(hits(helper.shop(), store, [["red"], []]), [0, 2])
        self.assertEqual(models(helper.shop(), store, [["red"], []]), ["cup"])
        item = ("cup", [["red"], ["s"]])
        self.assertEqual(hits(helper.shop(), [item, item], [["red"], ["s"]]), [0, 1])

    def test_models_in_order_and_once(self):
        thing, other = [["red"], ["s"]], [["blue"], ["s"]]
        store = [("pot", thing), ("cup", thing), ("jug", other), ("pot", other), ("can", thing), ("cup", other)]
        self.assertEqual(models(helper.shop(), store, [["red"], []]), ["can", "cup", "pot"])
        self.assertEqual(models(helper.shop(), store, [["blue"], []]), ["cup", "jug", "pot"])
        self.assertEqual(models(helper.shop(), store, [[], ["m"]]), [])
        many = [(name, thing) for name in "zyxwvutsrqponmlkjihgfedcba"]
        self.assertEqual(models(helper.shop(), many, [[], []]), list("abcdefghijklmnopqrstuvwxyz"))

    def test_dead_and_idle_go_by_the_order_of_the_shop(self):
        shop = Shop([("z", "or", "many", ["y", "x"]), ("a", "or", "many", ["c", "b"])])
        self.assertEqual(dead(shop, [], [[], []]), [("z", "y"), ("z", "x"), ("a", "c"), ("a", "b")])
        self.assertEqual(idle(shop, [], [["y", "x"], ["c", "b"]]), [("z", "y"), ("z", "x"), ("a", "c"), ("a", "b")])

    def test_dead_counts_the_other_ticks(self):
        shop = helper.shop()
        store = [("cup", [["red"], ["s"]]), ("jug", [["blue"], ["m"]])]
        self.assertEqual(dead(shop, store, [[], []]), [])
        self.assertEqual(dead(shop, store, [["red"], []]), [("size", "m")])
        # In a group with "and" a second tick beside the first finds nothing where things bear one box.
        self.assertEqual(dead(shop, store, [[], ["s"]]), [("hue", "blue"), ("size", "m")])

    def test_a_tick_with_or_is_not_dead_while_another_finds(self):
        shop = Shop([("a", "or", "many", ["x", "y"])])
        store = [("cup", [["x"]])]
        self.assertEqual(dead(shop, store, [["x"]]), [])
        self.assertEqual(dead(shop, store, [[]]), [("a", "y")])

    def test_idle_compares_what_is_found(self):
        shop = Shop([("a", "or", "many", ["x", "y"])])
        # Without the only tick all is found again, without the one of two less.
        self.assertEqual(idle(shop, [("p", [["x"]]), ("p", [[]])], [["x"]]), [])
        self.assertEqual(idle(shop, [("p", [["x"]]), ("p", [["x", "y"]])], [["x"]]), [("a", "x")])
        self.assertEqual(idle(shop, [("p", [["x"]]), ("p", [["y"]])], [["x", "y"]]), [])
        self.assertEqual(idle(shop, [("p", [["x"]]), ("p", [["x", "y"]])], [["x", "y"]]), [("a", "y")])

    def test_the_same_box_name_in_two_groups(self):
        shop = Shop([("a", "or", "many", ["x", "y"]), ("b", "and", "many", ["x"])])
        store = [("p", [["x"], []]), ("q", [["x"], ["x"]])]
        self.assertEqual(hits(shop, store, [[], ["x"]]), [1])
        self.assertEqual(dead(shop, store, [[], ["x"]]), [("a", "y")])
        self.assertEqual(idle(shop, store, [["x"], ["x"]]), [("a", "x")])

    def test_told_kinds(self):
        for box in dead(helper.shop(), [], [[], []]) + idle(helper.shop(), [], [["red"], ["s"]]):
            self.assertIs(box.__class__, tuple)
        for call in FOUND:
            self.assertIs(call(helper.shop(), helper.store(), [["red"], ["s"]]).__class__, list)

    def test_by_name(self):
        given = {"shop": helper.shop(), "store": helper.store(), "ticks": [["red"], []]}
        self.assertEqual(hits(**given), [0, 1])
        self.assertEqual(models(**given), ["cup"])
        self.assertEqual(dead(**given), [])
        self.assertEqual(idle(**given), [])

    def test_arguments_stay_and_answers_are_free(self):
        for call in FOUND:
            for ticks in ([[], []], [["blue"], []], [["red", "blue"], ["m"]], [["blue"], ["s"]]):
                for store in ([], helper.store()):
                    shop = helper.shop()
                    self.assert_free(call, shop, store, ticks)
                    self.assertEqual(shop, helper.shop())

    def test_store_changed_behind_a_call(self):
        shop, store, ticks = helper.shop(), helper.store(), [["red"], []]
        self.assertEqual(hits(shop, store, ticks), [0, 1])
        store.pop(0)
        self.assertEqual(hits(shop, store, ticks), [0])
        ticks[0].append("blue")
        store[1][1][0].append("blue")
        self.assertEqual(hits(shop, store, ticks), [0, 1])

    def test_the_most_things_within_seconds(self):
        many = [("a", "or", "many", list("abcde")), ("b", "and", "many", list("abcde"))]
        groups = [*many, ("c", "or", "one", ["x", "y"])]
        shop, things, chance = Shop(groups), helper.every_thing(groups), random.Random(3)
        store = [(chance.choice("abcdefgh"), chance.choice(things)) for _ in range(200)]
        ticks = [list("abd"), ["b"], ["x"]]
        began = time.monotonic()
        for call in FOUND:
            call(shop, store, ticks)
        self.assertLess(time.monotonic() - began, 5)
        self.assertEqual(dead(shop, store, ticks), plain_dead(groups, store, ticks))
        self.assertEqual(idle(shop, store, ticks), plain_idle(groups, store, ticks))


class TestWrongArguments(helper.Checks, unittest.TestCase):
    def test_wrong_shops(self):
        for call in FOUND:
            for value in helper.wrong_shops():
                with self.subTest(call=call, value=value):
                    self.assert_raised(InvalidShop, value, call, value, [], [[], []])

    def test_wrong_stores(self):
        for call in FOUND:
            for value in [*NEVER, *helper.odd_values(), helper.shop()]:
                with self.subTest(call=call, value=value):
                    self.assert_raised(InvalidStore, value, call, helper.shop(), value, [[], []])

    def test_wrong_ticks(self):
        wrong = [
            [], [[]], [[], [], []], [["blue", "red"], []], [["red", "red"], []], [["tan"], []], [["s"], ["red"]],
            [("red",), []], ([], []), [[], None], [[None], []], {}, "red", [[True], []], helper.store(),
        ]
        for call in FOUND:
            for value in [*wrong, *helper.odd_values(), helper.shop()]:
                for store in ([], helper.store()):
                    with self.subTest(call=call, value=value):
                        self.assert_raised(InvalidTicks, value, call, helper.shop(), store, value)

    def test_order_of_the_errors(self):
        for call in FOUND:
            self.assert_raised(InvalidShop, None, call, None, None, None)
            self.assert_raised(InvalidShop, None, call, None, [], None)
            self.assert_raised(InvalidShop, None, call, None, None, [[], []])
            self.assert_raised(InvalidStore, "no", call, helper.shop(), "no", "none")
            self.assert_raised(InvalidTicks, "no", call, helper.shop(), [], "no")

    def test_refused_calls_change_nothing(self):
        for call in FOUND:
            shop, store, ticks = helper.shop(), [*helper.store(), None], [["red"], ["s"]]
            with self.assertRaises(InvalidStore):
                call(shop, store, ticks)
            self.assertEqual((shop, store, ticks), (helper.shop(), [*helper.store(), None], [["red"], ["s"]]))


if __name__ == "__main__":
    unittest.main()
