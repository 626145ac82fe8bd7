"""Live shops: document points [40], [41] and [42]."""

import copy
import random
import time
import unittest

from tests import helper
from tickcounts.errors import InvalidName, InvalidRule, InvalidShop, InvalidThing, Missing, NothingToUndo, UnknownName
from tickcounts.live import Live
from tickcounts.rules import Rule, board
from tickcounts.shops import Shop
from tickcounts.stores import hits, idle

CUP = ("cup", [["red"], ["s"]])
JUG = ("jug", [[], ["m"]])
NO_THINGS = [
    [], [["red"]], [["red"], []], [["red"], ["s", "m"]], [["blue", "red"], ["s"]], [["tan"], ["s"]],
    [("red",), ["s"]], (["red"], ["s"]), [["red"], ["s"], []], CUP, [CUP],
]
NO_NAMES = ["", "Cup", "abcdefghi", "c p", "cup\n", "cup1", "\u00fcber", ["cup"], ("cup",)]


def live():
    """A live shop with two items and two ticks, behind four deeds."""
    told = Live(helper.shop())
    told.put(*copy.deepcopy(CUP))
    told.put(*copy.deepcopy(JUG))
    told.tick("hue", "red")
    told.tick("size", "s")
    return told


def state(told):
    return told.shop.groups(), told.store(), told.ticks(), told.log()


class PlainLive:
    """A store and ticks led on by the plain words of the document, with all that was ahead of each deed."""

    def __init__(self, groups):
        self.groups = groups
        self.store = []
        self.ticks = [[] for _ in groups]
        self.past = []

    def do(self, deed):
        self.past.append((deed, copy.deepcopy(self.store), copy.deepcopy(self.ticks)))
        if deed[0] == "put":
            self.store.append((deed[1], deed[2]))
        elif deed[0] == "take":
            self.store.remove((deed[1], deed[2]))
        elif deed[0] == "clear":
            self.ticks = [[] for _ in self.groups]
        else:
            at = [group[0] for group in self.groups].index(deed[1])
            self.ticks[at] = [box for box in self.groups[at][3] if (box in self.ticks[at]) != (box == deed[2])]

    def back(self):
        _, self.store, self.ticks = self.past.pop()

    def log(self):
        return [deed for deed, _, _ in self.past]


def do(told, deed):
    """Do a deed as the log tells it."""
    kind, *given = deed
    return {"put": told.put, "take": told.take, "tick": told.tick, "clear": told.clear}[kind](*given)


class Lives(helper.Checks):
    def assert_as(self, told, plain):
        """All that a live shop tells is what follows from the plain words."""
        shop = Shop(plain.groups)
        self.assertEqual(told.shop, shop)
        self.assertEqual(told.store(), plain.store)
        self.assertEqual(told.ticks(), plain.ticks)
        self.assertEqual(len(told), len(plain.store))
        self.assertEqual(told.log(), plain.log())
        self.assertEqual(told.hits(), hits(shop, plain.store, plain.ticks))

    def assert_refused(self, kind, value, told, call, *args, field="value"):
        """A refused deed is none: nothing changes, and what is undone next is the deed ahead of it."""
        ahead = state(told)
        self.assert_raised(kind, value, call, *args, field=field)
        self.assertEqual(state(told), ahead)


class TestDeeds(Lives, unittest.TestCase):
    def test_the_beginning(self):
        told = Live(helper.shop())
        self.assertEqual(told.shop, helper.shop())
        self.assertEqual((told.store(), told.ticks(), len(told), told.hits(), told.log()), ([], [[], []], 0, [], []))
        self.assertEqual(told.board(helper.rule()), [[0, 0], [0, 0]])
        self.assertEqual(Live(shop=helper.shop()), told)

    def test_wrong_shops(self):
        for value in helper.wrong_shops():
            self.assert_raised(InvalidShop, value, Live, value)

    def test_deeds_tell_none(self):
        told = Live(helper.shop())
        self.assertIsNone(told.put(*CUP))
        self.assertIsNone(told.tick("hue", "red"))
        self.assertIsNone(told.tick("hue", "red"))
        self.assertIsNone(told.clear())
        self.assertIsNone(told.take(*CUP))
        self.assertIsNone(told.back())

    def test_by_name(self):
        told = Live(helper.shop())
        told.put(model="cup", thing=[["red"], ["s"]])
        told.tick(group="hue", box="red")
        self.assertEqual(told.board(rule=helper.rule()), [[1, 0], [1, 0]])
        told.take(model="cup", thing=[["red"], ["s"]])
        self.assertEqual(told.log(), [("put", *CUP), ("tick", "hue", "red"), ("take", *CUP)])

    def test_put_goes_behind(self):
        told = Live(helper.shop())
        for item in (CUP, JUG, CUP):
            told.put(*item)
        self.assertEqual(told.store(), [CUP, JUG, CUP])
        self.assertEqual(len(told), 3)

    def test_equal_items_put_twice_and_taken_once(self):
        told = Live(helper.shop())
        for item in (JUG, CUP, JUG, CUP, ("cup", JUG[1])):
            told.put(*item)
        told.take(*CUP)
        self.assertEqual(told.store(), [JUG, JUG, CUP, ("cup", JUG[1])])
        told.take(*JUG)
        self.assertEqual(told.store(), [JUG, CUP, ("cup", JUG[1])])
        told.take("cup", JUG[1])
        self.assertEqual(told.store(), [JUG, CUP])
        self.assertEqual(len(told), 2)

    def test_missing(self):
        told = live()
        for model, thing in (("cup", JUG[1]), ("jug", CUP[1]), ("pot", CUP[1]), ("cup", [["red", "blue"], ["s"]])):
            ahead = state(told)
            with self.assertRaises(Missing) as caught:
                told.take(model, thing)
            self.assertEqual(caught.exception.value, (model, thing))
            self.assertIs(caught.exception.value.__class__, tuple)
            self.assertIs(caught.exception.value[1], thing)
            self.assertEqual(state(told), ahead)
        told.take(*CUP)
        with self.assertRaises(Missing):
            told.take(*CUP)

    def test_wrong_names_and_things(self):
        told = live()
        for call in (told.put, told.take):
            for value in [*NO_NAMES, *[value for value in helper.odd_values() if value != "zz"], helper.shop()]:
                self.assert_refused(InvalidName, value, told, call, value, CUP[1], field="name")
                self.assert_refused(InvalidName, value, told, call, value, None, field="name")
            for value in [*NO_THINGS, *helper.odd_values(), helper.shop()]:
                self.assert_refused(InvalidThing, value, told, call, "cup", value)
                self.assert_refused(InvalidThing, value, told, call, "pot", value)

    def test_tick_and_untick(self):
        told = Live(helper.shop())
        told.tick("hue", "blue")
        self.assertEqual(told.ticks(), [["blue"], []])
        told.tick("hue", "red")
        self.assertEqual(told.ticks(), [["red", "blue"], []])
        told.tick("size", "m")
        told.tick("hue", "blue")
        self.assertEqual(told.ticks(), [["red"], ["m"]])
        told.tick("size", "m")
        self.assertEqual(told.ticks(), [["red"], []])

    def test_boxes_of_one_name_in_two_groups(self):
        told = Live(Shop([("a", "or", "one", ["x", "y"]), ("b", "or", "many", ["y", "x"])]))
        told.tick("b", "x")
        self.assertEqual(told.ticks(), [[], ["x"]])
        told.tick("a", "x")
        told.tick("b", "y")
        self.assertEqual(told.ticks(), [["x"], ["y", "x"]])
        told.tick("b", "x")
        self.assertEqual(told.ticks(), [["x"], ["y"]])

    def test_unknown_names(self):
        told = live()
        for value in [*helper.odd_values(), "red", "Hue", ["hue"], ("hue",), helper.shop()]:
            self.assert_refused(UnknownName, value, told, told.tick, value, "red", field="name")
            self.assert_refused(UnknownName, value, told, told.tick, value, None, field="name")
        for value in [*helper.odd_values(), "s", "hue", ["red"], ("red",), helper.shop()]:
            self.assert_refused(UnknownName, value, told, told.tick, "hue", value, field="name")

    def test_clear(self):
        told = live()
        told.clear()
        self.assertEqual(told.ticks(), [[], []])
        self.assertEqual(told.store(), [CUP, JUG])
        told.clear()
        self.assertEqual(told.log()[-2:], [("clear",), ("clear",)])

    def test_board_and_hits_behind_each_deed(self):
        chance, told = random.Random(31), Live(helper.shop())
        things, plain = helper.every_thing(helper.GROUPS), PlainLive(helper.GROUPS)
        for words in helper.every_words():
            deeds = [("put", chance.choice(["cup", "jug"]), chance.choice(things)), ("clear",)]
            deeds.extend([("tick", "hue", chance.choice(["red", "blue"])), ("tick", "size", chance.choice("sm"))])
            deeds.extend([("take", *item) for item in told.store()[:1]])
            deed = chance.choice([*deeds, deeds[0], deeds[2], deeds[3]])
            do(told, deed)
            plain.do(deed)
            self.assert_as(told, plain)
            self.assertEqual(
                told.board(Rule(*words)), helper.plain_board(helper.GROUPS, plain.store, plain.ticks, words))

    def test_wrong_rules(self):
        told = live()
        for value in helper.wrong_rules():
            self.assert_refused(InvalidRule, value, told, told.board, value)

    def test_bracket_behind_42(self):
        """What the board tells of unticked boxes is what is found behind the tick, and idle boxes find as many."""
        chance, things = random.Random(32), helper.every_thing(helper.GROUPS)
        for _ in range(60):
            told = Live(helper.shop())
            for _ in range(chance.randrange(6)):
                told.put(chance.choice(["cup", "jug"]), chance.choice(things))
            for group, boxes in (("hue", ["red", "blue"]), ("size", ["s", "m"])):
                for box in boxes:
                    if chance.random() < 0.5:
                        told.tick(group, box)
            numbers = told.board(Rule("add", "keep", False, "things", False))
            dull = idle(helper.shop(), told.store(), told.ticks())
            for (group, _, _, boxes), ticked, row in zip(helper.GROUPS, told.ticks(), numbers):
                for box, number in zip(boxes, row):
                    ahead = len(told.hits())
                    told.tick(group, box)
                    behind = len(told.hits())
                    told.back()
                    if box in ticked:
                        self.assertIs((group, box) in dull, ahead == behind)
                    else:
                        self.assertEqual(number, behind)


class TestOwnLists(Lives, unittest.TestCase):
    def test_handed_things_changed_behind_the_call(self):
        told, thing = Live(helper.shop()), [["red"], ["s"]]
        told.put("cup", thing)
        thing[0].append("blue")
        thing.pop()
        self.assertEqual(told.store(), [CUP])
        self.assertEqual(told.log(), [("put", *CUP)])
        thing = [["red"], ["s"]]
        told.take("cup", thing)
        thing[0].clear()
        self.assertEqual(told.log(), [("put", *CUP), ("take", *CUP)])
        told.back()
        self.assertEqual(told.store(), [CUP])

    def test_one_thing_put_twice(self):
        told, thing = Live(helper.shop()), [["red"], ["s"]]
        told.put("cup", thing)
        told.put("cup", thing)
        self.assert_own(told.store(), thing)
        self.assert_own(told.log(), thing)

    def test_arguments_stay(self):
        told, thing = Live(helper.shop()), [["red"], ["s"]]
        told.put("cup", thing)
        told.take("cup", thing)
        self.assertEqual(thing, [["red"], ["s"]])

    def test_told_lists_are_free(self):
        told = live()
        told.take(*JUG)
        told.put(*CUP)
        for call in (told.store, told.ticks, told.hits, told.log):
            self.assert_free(call)
        self.assert_free(told.board, helper.rule())
        self.assert_own([told.store(), told.store(), told.log(), told.log(), told.ticks(), told.ticks()])

    def test_handed_shop(self):
        groups = copy.deepcopy(helper.GROUPS)
        shop = Shop(groups)
        told = Live(shop)
        groups[0][3].append("tan")
        shop.groups()[0][3].append("tan")
        told.shop.groups().pop()
        self.assertEqual(told.shop, helper.shop())

    def test_kinds_of_what_is_told(self):
        told = live()
        self.assertEqual([item.__class__ for item in told.store()], [tuple, tuple])
        self.assertEqual([deed.__class__ for deed in told.log()], [tuple] * 4)
        self.assertEqual(told.log(), [("put", *CUP), ("put", *JUG), ("tick", "hue", "red"), ("tick", "size", "s")])


class TestBack(Lives, unittest.TestCase):
    def test_behind_each_kind_of_deed(self):
        for deed in (("put", *CUP), ("take", *CUP), ("tick", "hue", "red"), ("tick", "hue", "blue"), ("clear",)):
            with self.subTest(deed=deed):
                told = live()
                ahead = state(told)
                do(told, deed)
                self.assertEqual(told.log(), [*ahead[3], deed])
                self.assertIsNone(told.back())
                self.assertEqual(state(told), ahead)

    def test_what_was_taken_comes_back_to_its_place(self):
        told = Live(helper.shop())
        for item in (JUG, CUP, JUG, CUP):
            told.put(*item)
        told.take(*CUP)
        self.assertEqual(told.store(), [JUG, JUG, CUP])
        told.back()
        self.assertEqual(told.store(), [JUG, CUP, JUG, CUP])
        told.back()
        self.assertEqual(told.store(), [JUG, CUP, JUG])

    def test_refused_deeds_are_none(self):
        told = live()
        for kind, call, given in (
            (InvalidName, told.put, (None, CUP[1])), (InvalidThing, told.put, ("cup", None)),
            (InvalidName, told.take, ("", CUP[1])), (InvalidThing, told.take, ("cup", [])),
            (Missing, told.take, ("pot", CUP[1])), (UnknownName, told.tick, ("hut", "red")),
            (UnknownName, told.tick, ("hue", "tan")), (InvalidRule, told.board, (None,)),
        ):
            with self.assertRaises(kind):
                call(*given)
        told.back()
        self.assertEqual(told.ticks(), [["red"], []])
        self.assertEqual(len(told.log()), 3)

    def test_a_clear_of_nothing_is_a_deed(self):
        told = Live(helper.shop())
        told.clear()
        told.back()
        with self.assertRaises(NothingToUndo):
            told.back()

    def test_down_to_the_beginning_and_on(self):
        told = live()
        for many in (3, 2, 1, 0):
            told.back()
            self.assertEqual(len(told.log()), many)
        self.assertEqual(told, Live(helper.shop()))
        for _ in range(2):
            ahead = state(told)
            with self.assertRaises(NothingToUndo):
                told.back()
            self.assertEqual(state(told), ahead)
        told.put(*JUG)
        self.assertEqual(told.log(), [("put", *JUG)])
        told.back()
        self.assertEqual(told.store(), [])

    def test_nothing_to_undo_at_once(self):
        with self.assertRaises(NothingToUndo):
            Live(helper.shop()).back()

    def test_deeds_behind_back(self):
        told = live()
        told.back()
        told.tick("hue", "blue")
        self.assertEqual(
            told.log(), [("put", *CUP), ("put", *JUG), ("tick", "hue", "red"), ("tick", "hue", "blue")])
        told.back()
        told.back()
        self.assertEqual(told.ticks(), [[], []])

    def test_many_deeds_against_the_plain_words(self):
        groups = [("a", "or", "many", list("vwxyz")), ("b", "and", "one", list("vwx"))]
        chance, things = random.Random(33), helper.every_thing(groups)
        for _ in range(6):
            told, plain, twins = Live(Shop(groups)), PlainLive(groups), []
            for _ in range(150):
                kind = chance.choice(["put", "put", "take", "tick", "tick", "clear", "back", "back", "copy"])
                if kind == "back" and plain.past:
                    told.back()
                    plain.back()
                elif kind == "copy":
                    twins.append((told.copy(), copy.deepcopy(plain)))
                elif kind == "clear" and chance.random() < 0.3:
                    do(told, ("clear",))
                    plain.do(("clear",))
                elif kind == "tick":
                    group = chance.choice(groups)
                    deed = ("tick", group[0], chance.choice(group[3]))
                    do(told, deed)
                    plain.do(deed)
                elif kind == "put" or (kind == "take" and plain.store):
                    item = ("p", chance.choice(things)) if kind == "put" else chance.choice(plain.store)
                    do(told, (kind, *item))
                    plain.do((kind, *item))
                self.assert_as(told, plain)
            for twin, other in twins:
                self.assert_as(twin, other)

    def test_300_deeds_within_seconds(self):
        groups = [("a", "or", "many", list("vwxyz")), ("b", "and", "many", list("vwxyz")), ("c", "or", "one", ["x"])]
        chance, things = random.Random(34), helper.every_thing(groups)
        told, plain = Live(Shop(groups)), PlainLive(groups)
        rule, began = Rule("add", "keep", True, "models", True), time.monotonic()
        for many in range(300):
            deed = ("tick", "a", chance.choice("vwxyz")) if many % 9 == 8 else ("put", "p", chance.choice(things))
            do(told, deed)
            plain.do(deed)
            told.board(rule)
        self.assertLess(time.monotonic() - began, 10)
        self.assert_as(told, plain)
        self.assertEqual(told.board(rule), board(Shop(groups), plain.store, plain.ticks, rule))
        for many in range(299, -1, -1):
            told.back()
            plain.back()
            if many % 50 == 0:
                self.assert_as(told, plain)
        self.assertEqual(told, Live(Shop(groups)))


class TestCopies(Lives, unittest.TestCase):
    def test_a_copy_has_the_same(self):
        told = live()
        twin = told.copy()
        self.assertIsInstance(twin, Live)
        self.assertIsNot(twin, told)
        self.assertEqual(state(twin), state(told))
        self.assertIs(twin == told, True)
        self.assert_own([told.store(), twin.store(), told.log(), twin.log(), told.ticks(), twin.ticks()])

    def test_copies_go_on_by_themselves(self):
        for deed in (("put", *CUP), ("take", *CUP), ("tick", "hue", "red"), ("clear",)):
            told = live()
            ahead, twin = state(told), told.copy()
            do(twin, deed)
            self.assertEqual(state(told), ahead)
            self.assertFalse(told == twin)
            twin.back()
            self.assertEqual(state(twin), ahead)
            do(told, deed)
            self.assertEqual(state(twin), ahead)

    def test_each_undoes_its_own_deeds(self):
        told = live()
        twin = told.copy()
        for _ in range(4):
            twin.back()
        with self.assertRaises(NothingToUndo):
            twin.back()
        self.assertEqual(len(told.log()), 4)
        told.back()
        self.assertEqual(told.ticks(), [["red"], []])
        self.assertEqual(twin, Live(helper.shop()))

    def test_a_copy_of_a_copy_and_of_the_beginning(self):
        told = live().copy().copy()
        self.assertEqual(state(told), state(live()))
        self.assertEqual(Live(helper.shop()).copy(), Live(helper.shop()))


class TestEqual(unittest.TestCase):
    def assert_unlike(self, one, other):
        self.assertIs(one == other, False)
        self.assertIs(other == one, False)
        self.assertIs(one != other, True)

    def test_equal_ones_by_other_deeds(self):
        one, other = live(), Live(helper.shop())
        for deed in (
            ("tick", "size", "s"), ("put", *CUP), ("put", *CUP), ("put", *JUG), ("take", *CUP), ("put", *JUG),
            ("take", *JUG), ("tick", "hue", "red"), ("put", *JUG), ("take", *JUG),
        ):
            do(other, deed)
        self.assertEqual(other.store(), one.store())
        self.assertNotEqual(other.log(), one.log())
        self.assertIs(one == other, True)
        self.assertIs(one != other, False)
        self.assertIs(one == one, True)

    def test_unlike_shops(self):
        groups = [("hue", "and", "many", ["red", "blue"]), helper.GROUPS[1]]
        self.assert_unlike(Live(helper.shop()), Live(Shop(groups)))
        self.assert_unlike(Live(helper.shop()), Live(Shop(helper.GROUPS[:1])))

    def test_unlike_stores(self):
        for items in ([], [CUP], [JUG, CUP], [CUP, JUG, JUG], [CUP, CUP], [CUP, ("pot", JUG[1])]):
            other = Live(helper.shop())
            for item in items:
                other.put(*item)
            other.tick("hue", "red")
            other.tick("size", "s")
            self.assert_unlike(live(), other)

    def test_unlike_ticks(self):
        for deed in (("tick", "hue", "red"), ("tick", "hue", "blue"), ("tick", "size", "s"), ("clear",)):
            other = live()
            do(other, deed)
            self.assert_unlike(live(), other)

    def test_other_objects(self):
        told = Live(helper.shop())
        others = [value for value in helper.odd_values() if not isinstance(value, Live)]
        for other in [*others, helper.shop(), [], [[], []], told.store(), [told], (told,), object()]:
            self.assert_unlike(told, other)


if __name__ == "__main__":
    unittest.main()
