"""Libraries of questions: document points [65], [66] and [67]."""

import copy
import random
import time
import unittest

from tests import asked, helper
from tests.test_follows import ALL_OF, BLUE, BOTH, EITHER, NOTHING, ONLY_RED
from tests.test_questions import DEEP, RED, WIDE, no_questions
from tickcounts.errors import (
    InvalidItem, InvalidName, InvalidShop, InvalidStore, NothingToUndo, TakenName, UnknownName,
)
from tickcounts.library import Library
from tickcounts.shops import Shop
from tickcounts.spans import count_of, fewest, parting

NO_NAMES = ["", "Red", "abcdefghi", "r d", "red\n", "red1", "\u00fcber", ["red"], ("red",)]


def library():
    """A library of three questions, behind four steps."""
    told = Library(helper.shop())
    told.put("reds", copy.deepcopy(ONLY_RED))
    told.put("blues", copy.deepcopy(EITHER))
    told.put("all", copy.deepcopy(ALL_OF))
    told.change("blues", copy.deepcopy(BLUE))
    return told


def kept(told):
    return {name: told.question_of(name) for name in told.names()}


def state(told):
    return told.shop.groups(), kept(told), told.log()


class PlainLibrary:
    """Questions by names, led on by the plain words of the document, with all that was ahead of each step."""

    def __init__(self, groups):
        self.groups = groups
        self.kept = {}
        self.past = []

    def do(self, step, question=None):
        self.past.append((step, copy.deepcopy(self.kept)))
        if step[0] == "drop":
            del self.kept[step[1]]
        else:
            self.kept[step[1]] = copy.deepcopy(question)

    def back(self):
        _, self.kept = self.past.pop()

    def log(self):
        return [step for step, _ in self.past]

    def needed(self):
        names = sorted(self.kept)
        lot = asked.plain_fewest(self.groups, [self.kept[name] for name in names], [1] * len(names))
        return [names[place] for place in lot]

    def alike(self, question):
        column = asked.column(self.groups, question)
        return [name for name in sorted(self.kept) if asked.column(self.groups, self.kept[name]) == column]


def do(told, step, question=None):
    """Do a step as the log tells it."""
    kind, name = step
    given = [name] if kind == "drop" else [name, question]
    return {"put": told.put, "drop": told.drop, "change": told.change}[kind](*given)


class Libraries(helper.Checks):
    def assert_as(self, told, plain, store, question):
        """All that a library tells is what follows from the plain words."""
        names = sorted(plain.kept)
        self.assertEqual(told.shop, Shop(plain.groups))
        self.assertEqual(kept(told), plain.kept)
        self.assertEqual((told.names(), list(told), len(told)), (names, names, len(names)))
        for name in [*names, *"abcdefghij", *helper.odd_values()]:
            self.assertIs(name in told, isinstance(name, str) and name in names)
        numbers = [(name, asked.number(plain.groups, store, plain.kept[name])) for name in names]
        self.assertEqual(told.numbers(store), numbers)
        self.assertEqual(told.needed(), plain.needed())
        self.assertEqual(told.alike(question), plain.alike(question))
        self.assertEqual(told.log(), plain.log())

    def assert_refused(self, kind, value, told, call, *args, field="value"):
        """A refused step is none: nothing changes, and what is undone next is the step ahead of it."""
        ahead = state(told)
        self.assert_raised(kind, value, call, *args, field=field)
        self.assertEqual(state(told), ahead)


class TestSteps(Libraries, unittest.TestCase):
    def test_the_beginning(self):
        told = Library(helper.shop())
        self.assertEqual(told.shop, helper.shop())
        self.assertEqual((told.names(), list(told), len(told), told.log(), told.needed()), ([], [], 0, [], []))
        self.assertEqual((told.numbers(helper.store()), told.alike(RED)), ([], []))
        self.assertIs("red" in told, False)
        self.assertEqual(Library(shop=helper.shop()), told)

    def test_wrong_shops(self):
        for value in helper.wrong_shops():
            self.assert_raised(InvalidShop, value, Library, value)

    def test_steps_tell_none(self):
        told = Library(helper.shop())
        self.assertIsNone(told.put("a", RED))
        self.assertIsNone(told.change("a", BLUE))
        self.assertIsNone(told.drop("a"))
        self.assertIsNone(told.back())

    def test_put_drop_and_change(self):
        told = Library(helper.shop())
        for name, question in (("z", RED), ("a", BLUE), ("abcdefgh", ALL_OF), ("b", RED)):
            told.put(name, question)
            self.assertEqual(told.question_of(name), question)
        self.assertEqual(told.names(), ["a", "abcdefgh", "b", "z"])
        told.change("z", BOTH)
        told.drop("a")
        self.assertEqual(kept(told), {"abcdefgh": ALL_OF, "b": RED, "z": BOTH})
        told.put("a", EITHER)
        told.change("a", EITHER)
        self.assertEqual(list(told), ["a", "abcdefgh", "b", "z"])
        self.assertEqual(told.question_of("a"), EITHER)
        self.assertEqual([step for step, _ in told.log()], ["put"] * 4 + ["change", "drop", "put", "change"])

    def test_by_name(self):
        told = Library(helper.shop())
        told.put(name="a", question=RED)
        told.change(name="a", question=BLUE)
        self.assertEqual(told.question_of(name="a"), BLUE)
        self.assertEqual(told.numbers(store=helper.store()), [("a", 1)])
        self.assertEqual(told.alike(question=BLUE), ["a"])
        told.drop(name="a")
        self.assertEqual(told.log(), [("put", "a"), ("change", "a"), ("drop", "a")])

    def test_wrong_arguments_of_put_in_order(self):
        told = library()
        for value in [*NO_NAMES, *[value for value in helper.odd_values() if value != "zz"], helper.shop()]:
            self.assert_refused(InvalidName, value, told, told.put, value, RED, field="name")
            self.assert_refused(InvalidName, value, told, told.put, value, None, field="name")
        for name in ("reds", "blues", "all"):
            self.assert_refused(TakenName, name, told, told.put, name, RED, field="name")
            self.assert_refused(TakenName, name, told, told.put, name, None, field="name")
        for value in no_questions():
            self.assert_refused(InvalidItem, value, told, told.put, "tan", value)
        told.drop("reds")
        told.put("reds", RED)

    def test_names_that_are_not_kept(self):
        told = library()
        told.put("gone", RED)
        told.drop("gone")
        for value in [*NO_NAMES, *helper.odd_values(), "red", "gone", "al", "alls", "zz", helper.shop()]:
            self.assert_refused(UnknownName, value, told, told.drop, value, field="name")
            self.assert_refused(UnknownName, value, told, told.question_of, value, field="name")
            self.assert_refused(UnknownName, value, told, told.change, value, RED, field="name")
            self.assert_refused(UnknownName, value, told, told.change, value, None, field="name")
            self.assertIs(value in told, False)
        for value in no_questions():
            self.assert_refused(InvalidItem, value, told, told.change, "all", value)

    def test_each_step_against_the_plain_words(self):
        chance = random.Random(65)
        for groups in [*list(helper.small_shops())[::4], helper.GROUPS]:
            told, plain, store = Library(Shop(groups)), PlainLibrary(groups), list(helper.stores_of(groups, chance))[-1]
            for _ in range(40):
                name, question = chance.choice("abcdef"), asked.question(groups, chance)
                if plain.past and chance.random() < 0.3:
                    told.back()
                    plain.back()
                else:
                    kinds = ["drop", "change"] if name in plain.kept else ["put"]
                    step = (chance.choice(kinds), name)
                    do(told, step, question)
                    plain.do(step, question)
                self.assert_as(told, plain, store, chance.choice([question, *plain.kept.values()]))


class TestWhatIsTold(Libraries, unittest.TestCase):
    def test_names_in_any_values(self):
        told = library()
        for name in ("reds", "blues", "all"):
            self.assertIs(name in told, True)
            self.assertIs(name not in told, False)
        for value in [*helper.odd_values(), "red", ["reds"], ("reds",), {"reds": 1}, helper.shop(), told, object()]:
            self.assertIs(value in told, False)

    def test_loops(self):
        told = library()
        self.assertEqual([name for name in told], ["all", "blues", "reds"])
        self.assertEqual([(one, other) for one in told for other in told][3:5], [("blues", "all"), ("blues", "blues")])
        # A loop goes over the names that were kept when it began.
        for name in told:
            told.drop(name)
        self.assertEqual((list(told), len(told.log())), ([], 7))

    def test_numbers(self):
        told = library()
        self.assertEqual(told.numbers(helper.store()), [("all", 3), ("blues", 1), ("reds", 2)])
        self.assertEqual(told.numbers([]), [("all", 0), ("blues", 0), ("reds", 0)])
        for name, number in told.numbers(helper.store()):
            self.assertEqual(number, count_of(told.shop, helper.store(), told.question_of(name)))
            self.assertIs(number.__class__, int)

    def test_wrong_stores(self):
        for told in (library(), Library(helper.shop())):
            for value in [
                *helper.odd_values(), helper.shop(), [None], [("cup", [["red"], []])], tuple(helper.store()), RED,
            ]:
                self.assert_refused(InvalidStore, value, told, told.numbers, value)

    def test_needed(self):
        told = library()
        self.assertEqual(told.needed(), ["all", "blues", "reds"])
        told.put("both", BOTH)
        told.put("either", EITHER)
        self.assertEqual(told.needed(), ["all", "blues", "both", "either"])
        told.put("again", BLUE)
        self.assertEqual(told.needed(), ["again", "all", "both", "either"])
        told.change("all", NOTHING)
        self.assertEqual(told.needed(), ["again", "both", "either"])
        told.change("either", NOTHING)
        self.assertEqual(told.needed(), ["again", "both", "reds"])

    def test_alike(self):
        told = library()
        told.put("borne", ([[], []], [["red"], []]))
        told.put("zero", NOTHING)
        told.put("naught", ([["red"], []], [["blue"], ["s", "m"]]))
        for question, names in (
            (ONLY_RED, ["borne", "reds"]), (NOTHING, ["naught", "zero"]), (ALL_OF, ["all"]), (BOTH, []), (EITHER, []),
            (([["blue"], ["s", "m"]], [["red"], []]), ["naught", "zero"]), (([["blue"], []], [["blue"], []]), ["blues"]),
        ):
            self.assertEqual(told.alike(question), names)
            for name in told:
                self.assertIs(name in names, parting(told.shop, question, told.question_of(name)) is None)

    def test_questions_that_alike_refuses(self):
        for told in (library(), Library(helper.shop())):
            for value in no_questions():
                self.assert_refused(InvalidItem, value, told, told.alike, value)

    def test_twelve_questions_within_seconds(self):
        chance, names = random.Random(66), "lkjihgfedcba"
        for groups in (WIDE, DEEP):
            told, things = Library(Shop(groups)), helper.every_thing(groups)
            given = asked.questions(groups, chance, 12)
            for name, question in zip(names, given):
                told.put(name, question)
            store = [("p", chance.choice(things)) for _ in range(200)]
            began = time.monotonic()
            lot, numbers, alike = told.needed(), told.numbers(store), told.alike(given[0])
            self.assertLess(time.monotonic() - began, 3)
            self.assertEqual(lot, [names[::-1][place] for place in fewest(told.shop, given[::-1], [1] * 12)])
            self.assertEqual(numbers[::-1], [(name, asked.number(groups, store, one)) for name, one in zip(names, given)])
            self.assertIn("l", alike)


class TestOwnLists(Libraries, unittest.TestCase):
    def test_handed_questions_changed_behind_the_call(self):
        told, question = Library(helper.shop()), ([["red"], []], [[], ["s"]])
        told.put("a", question)
        told.put("b", question)
        question[0][0].append("blue")
        self.assertEqual(kept(told), {"a": RED, "b": RED})
        told.change("a", question)
        question[1].pop()
        self.assertEqual(told.question_of("a"), ([["red", "blue"], []], [[], ["s"]]))
        told.back()
        self.assertEqual(told.question_of("a"), RED)

    def test_arguments_stay(self):
        told, question = Library(helper.shop()), copy.deepcopy(RED)
        told.put("a", question)
        told.change("a", question)
        self.assertEqual(question, RED)

    def test_told_lists_are_free(self):
        told, shared = library(), [[], []]
        told.put("shared", (shared, shared))
        for call in (told.names, told.log, told.needed):
            self.assert_free(call)
        for name in told:
            self.assert_free(told.question_of, name)
        self.assert_free(told.numbers, helper.store())
        self.assert_free(told.alike, copy.deepcopy(RED))
        self.assert_own([told.question_of("shared"), told.question_of("shared"), told.copy().question_of("shared")])
        told.question_of("reds")[0][0].append("blue")
        told.back()
        self.assertEqual(kept(told), kept(library()))

    def test_handed_shop(self):
        groups = copy.deepcopy(helper.GROUPS)
        shop = Shop(groups)
        told = Library(shop)
        groups[0][3].append("tan")
        shop.groups()[0][3].append("tan")
        told.shop.groups().pop()
        self.assertEqual(told.shop, helper.shop())

    def test_kinds_of_what_is_told(self):
        told = library()
        self.assertEqual([one.__class__ for one in (told.question_of("all"), *told.question_of("all"))],
                         [tuple, list, list])
        self.assertEqual([one.__class__ for one in told.numbers([])], [tuple] * 3)
        self.assertEqual([step.__class__ for step in told.log()], [tuple] * 4)
        for call in (told.names, told.log, told.needed):
            self.assertIs(call().__class__, list)
        self.assertIs(told.alike(RED).__class__, list)
        self.assertIs(len(told).__class__, int)


class TestBack(Libraries, unittest.TestCase):
    def test_behind_each_kind_of_step(self):
        for step in (("put", "tan"), ("drop", "all"), ("change", "reds")):
            told = library()
            ahead = state(told)
            do(told, step, RED)
            self.assertEqual(told.log(), [*ahead[2], step])
            self.assertNotEqual(kept(told), ahead[1])
            self.assertIsNone(told.back())
            self.assertEqual(state(told), ahead)

    def test_refused_steps_are_none(self):
        told = library()
        for kind, call, given in (
            (InvalidName, told.put, (None, RED)), (TakenName, told.put, ("all", RED)), (InvalidItem, told.put, ("a", 1)),
            (UnknownName, told.drop, ("a",)), (UnknownName, told.change, ("a", RED)), (InvalidItem, told.change, ("all", 1)),
            (UnknownName, told.question_of, ("a",)), (InvalidStore, told.numbers, (1,)), (InvalidItem, told.alike, (1,)),
        ):
            with self.assertRaises(kind):
                call(*given)
        self.assertEqual(told.log(), [("put", "reds"), ("put", "blues"), ("put", "all"), ("change", "blues")])
        told.back()
        self.assertEqual(told.question_of("blues"), EITHER)

    def test_a_change_to_the_same_is_a_step(self):
        told = Library(helper.shop())
        told.put("a", RED)
        told.change("a", RED)
        told.back()
        self.assertEqual(told.log(), [("put", "a")])

    def test_down_to_the_beginning_and_on(self):
        told = library()
        for many in (3, 2, 1, 0):
            told.back()
            self.assertEqual(len(told.log()), many)
        self.assertEqual(told, Library(helper.shop()))
        for _ in range(2):
            ahead = state(told)
            with self.assertRaises(NothingToUndo):
                told.back()
            self.assertEqual(state(told), ahead)
        told.put("a", RED)
        self.assertEqual(told.log(), [("put", "a")])
        told.back()
        self.assertEqual(told.names(), [])

    def test_nothing_to_undo_at_once(self):
        with self.assertRaises(NothingToUndo):
            Library(helper.shop()).back()

    def test_steps_behind_back(self):
        told = library()
        told.back()
        told.drop("reds")
        self.assertEqual(told.log(), [("put", "reds"), ("put", "blues"), ("put", "all"), ("drop", "reds")])
        told.back()
        self.assertEqual(kept(told), {"all": ALL_OF, "blues": EITHER, "reds": ONLY_RED})

    def test_many_steps_within_seconds(self):
        told, began = Library(helper.shop()), time.monotonic()
        for name in "abcdefghijkl":
            told.put(name, RED)
        for many in range(3000):
            told.change("abcdefghijkl"[many % 12], [RED, BLUE][many % 2])
        for _ in range(3012):
            told.back()
        self.assertLess(time.monotonic() - began, 5)
        self.assertEqual(told, Library(helper.shop()))


class TestCopies(Libraries, unittest.TestCase):
    def test_a_copy_has_the_same(self):
        told = library()
        twin = told.copy()
        self.assertIsInstance(twin, Library)
        self.assertIsNot(twin, told)
        self.assertEqual(state(twin), state(told))
        self.assertIs(twin == told, True)

    def test_copies_go_on_by_themselves(self):
        for step in (("put", "tan"), ("drop", "all"), ("change", "reds")):
            told = library()
            ahead, twin = state(told), told.copy()
            do(twin, step, RED)
            self.assertEqual(state(told), ahead)
            self.assertFalse(told == twin)
            twin.back()
            self.assertEqual(state(twin), ahead)
            do(told, step, RED)
            self.assertEqual(state(twin), ahead)

    def test_each_undoes_its_own_steps(self):
        told = library()
        twin = told.copy()
        for _ in range(4):
            twin.back()
        with self.assertRaises(NothingToUndo):
            twin.back()
        self.assertEqual(state(told), state(library()))
        told.back()
        self.assertEqual(told.question_of("blues"), EITHER)
        self.assertEqual(twin, Library(helper.shop()))

    def test_a_copy_of_a_copy_and_of_the_beginning(self):
        self.assertEqual(state(library().copy().copy()), state(library()))
        self.assertEqual(Library(helper.shop()).copy(), Library(helper.shop()))


class TestEqual(unittest.TestCase):
    def assert_unlike(self, one, other):
        self.assertIs(one == other, False)
        self.assertIs(other == one, False)
        self.assertIs(one != other, True)

    def test_equal_ones_by_other_steps(self):
        other = Library(helper.shop())
        for name, question in (("all", ALL_OF), ("tan", RED), ("blues", BLUE), ("reds", ONLY_RED)):
            other.put(name, question)
        other.drop("tan")
        self.assertNotEqual(other.log(), library().log())
        self.assertIs(library() == other, True)
        self.assertIs(library() != other, False)
        self.assertIs(other == other, True)

    def test_unlike_shops(self):
        groups = [("hue", "and", "many", ["red", "blue"]), helper.GROUPS[1]]
        self.assert_unlike(Library(helper.shop()), Library(Shop(groups)))
        self.assert_unlike(Library(helper.shop()), Library(Shop(helper.GROUPS[:1])))
        other = Library(Shop(groups))
        for name, question in kept(library()).items():
            other.put(name, question)
        self.assert_unlike(library(), other)

    def test_unlike_names_and_questions(self):
        for step in (("put", "tan"), ("drop", "all"), ("change", "reds")):
            other = library()
            do(other, step, RED)
            self.assert_unlike(library(), other)
        other = library()
        other.drop("reds")
        other.put("red", ONLY_RED)
        self.assert_unlike(library(), other)
        # Questions that always have equal numbers are unlike ones all the same.
        other = library()
        other.change("reds", ([[], []], [["red"], []]))
        self.assert_unlike(library(), other)
        other = library()
        other.change("reds", BLUE)
        other.change("blues", ONLY_RED)
        self.assert_unlike(library(), other)

    def test_other_objects(self):
        told = Library(helper.shop())
        others = [value for value in helper.odd_values() if not isinstance(value, Library)]
        for other in [*others, helper.shop(), [], {}, kept(told), ["reds"], [told], (told,), object()]:
            self.assert_unlike(told, other)
        self.assert_unlike(library(), kept(library()))
        self.assert_unlike(library(), ["all", "blues", "reds"])


if __name__ == "__main__":
    unittest.main()
