"""What several tests use: shops, odd values, and what holds for every call."""

import copy
import itertools

from tickcounts.errors import InvalidItem, NothingToUndo
from tickcounts.library import Library
from tickcounts.live import Live
from tickcounts.rules import Rule
from tickcounts.shops import Shop

GROUPS = [("hue", "or", "many", ["red", "blue"]), ("size", "and", "one", ["s", "m"])]
STORE = [("cup", [["red"], ["s"]]), ("cup", [["red", "blue"], ["m"]]), ("jug", [[], ["m"]])]


def shop():
    """The shop of the document's examples."""
    return Shop(copy.deepcopy(GROUPS))


def store():
    """The store of the document's examples."""
    return copy.deepcopy(STORE)


def rule():
    """A rule that counts what bears the box."""
    return Rule("leave", "keep", True, "things", False)


def library():
    """A library with a question that is kept by the name of a box."""
    told = Library(shop())
    told.put("red", ([["red"], []], [[], []]))
    return told


def odd_values():
    """Values that are no shop, no store, no thing, no ticks, no question, no group and no box of any shop here."""
    deep = []
    for _ in range(18):
        deep = [deep]
    return [
        None, True, False, 0, 1, -1, 10 ** 999, "", "zz", "red\n", "Red", [None], [0], [[[]]], (), ("red",),
        {}, {"red": True}, {0: []}, {1: [[]]}, [{}], [()], [[], [], [], [], []], deep,
        InvalidItem([]), NothingToUndo(), rule(), Live(shop()), library(),
    ]


def wrong_shops():
    """Values that are no shop, the groups of one among them."""
    return [*odd_values(), "hue", [], copy.deepcopy(GROUPS), copy.deepcopy(GROUPS[0])]


def wrong_rules():
    """Values that are no rule, the words of one among them."""
    odd = [value for value in odd_values() if not isinstance(value, Rule)]
    return [*odd, shop(), "keep", ["leave", "keep", True, "things", False], ("leave", "keep", True, "things", False)]


def every_words():
    """The words of all rules."""
    return list(itertools.product(
        ("keep", "leave", "add", "only"), ("keep", "leave"), (True, False), ("things", "models"), (True, False),
    ))


def words_of(told):
    """The words of a rule."""
    return told.own, told.others, told.bears, told.counts, told.less


def lists_within(value):
    """All list objects in a value, as often as they occur."""
    found = [value] if isinstance(value, list) else []
    if isinstance(value, (list, tuple)):
        for item in value:
            found.extend(lists_within(item))
    return found


def subsets(boxes):
    """The lists of some of the boxes, each in their order."""
    return [
        list(chosen)
        for many in range(len(boxes) + 1)
        for chosen in itertools.combinations(boxes, many)
    ]


def every_ticks(groups):
    """All ticks of a shop with these groups."""
    return [list(rows) for rows in itertools.product(*[subsets(group[3]) for group in groups])]


def every_thing(groups):
    """All things of a shop with these groups."""
    return [
        ticks for ticks in every_ticks(groups)
        if all(group[2] == "many" or len(row) == 1 for group, row in zip(groups, ticks))
    ]


def small_shops():
    """Groups of shops of one to three groups with each mode and each amount."""
    kinds = list(itertools.product(("or", "and"), ("one", "many")))
    for mode, bears in kinds:
        yield [("a", mode, bears, ["z", "y", "x"])]
        for other_mode, other_bears in kinds:
            yield [("b", mode, bears, ["y", "x"]), ("a", other_mode, other_bears, ["y", "z"])]
    yield [("c", "or", "many", ["b", "a"]), ("a", "and", "many", ["a"]), ("b", "and", "one", ["d", "a"])]


def plainly_meets(groups, thing, ticks):
    """What the document says of meeting, over sets."""
    told = []
    for (_, mode, _, _), borne, ticked in zip(groups, thing, ticks):
        if mode == "or":
            told.append(len(ticked) == 0 or len(set(ticked) & set(borne)) > 0)
        else:
            told.append(set(ticked) <= set(borne))
    return told


def with_box(groups, ticks, at, box):
    """The ticks with one box ticked besides."""
    return [
        [one for one in group[3] if one in row or (place == at and one == box)]
        for place, (group, row) in enumerate(zip(groups, ticks))
    ]


def plain_found(groups, store, ticks):
    """The items whose things meet the ticks."""
    return [item for item in store if all(plainly_meets(groups, item[1], ticks))]


def plain_number(items, counts):
    """The number of items, or of their unlike models."""
    return len(items) if counts == "things" else len({model for model, _ in items})


def plain_ticks(ticks, words, at, box):
    """What the document says of the ticks that come of the given ones, as sets."""
    own, others = words[:2]
    changed = {"keep": set(ticks[at]), "leave": set(), "add": {*ticks[at], box}, "only": {box}}
    kept = [set(row) if others == "keep" else set() for row in ticks]
    return [changed[own] if place == at else row for place, row in enumerate(kept)]


def plain_shown(groups, store, ticks, words, at, box):
    """What the document says of the shown number."""
    _, _, bears, counts, less = words
    items = plain_found(groups, store, plain_ticks(ticks, words, at, box))
    number = plain_number([item for item in items if not bears or box in item[1][at]], counts)
    return number - plain_number(plain_found(groups, store, ticks), counts) if less else number


def plain_board(groups, store, ticks, words):
    """What the document says of all shown numbers."""
    return [
        [plain_shown(groups, store, ticks, words, at, box) for box in group[3]]
        for at, group in enumerate(groups)
    ]


def stores_of(groups, chance):
    """Stores with no item, with one of each kind, and with some, also equal ones."""
    things = every_thing(groups)
    yield []
    for thing in things:
        yield [("a", thing)]
    for many in (2, 3, 6):
        for _ in range(3):
            yield [(chance.choice("ba"), chance.choice(things)) for _ in range(many)]


def traced(value):
    """What a value is made of, down to the very objects."""
    if isinstance(value, (list, tuple)):
        return id(value), [traced(item) for item in value]
    if isinstance(value, Shop):
        return id(value), value.groups()
    if isinstance(value, Rule):
        return id(value), words_of(value)
    if isinstance(value, Live):
        return id(value), value.shop.groups(), value.store(), value.ticks(), value.log()
    if isinstance(value, Library):
        return id(value), value.shop.groups(), [(name, value.question_of(name)) for name in value], value.log()
    return id(value), repr(value)


class Checks:
    """Assertions for test cases."""

    def assert_raised(self, kind, told, call, *args, field="value"):
        """A call raises just this error, which holds just that object, and changes nothing in its arguments."""
        ahead = traced(args)
        with self.assertRaises(kind) as caught:
            call(*args)
        self.assertIs(caught.exception.__class__, kind)
        self.assertIs(getattr(caught.exception, field), told)
        self.assertEqual(traced(args), ahead)

    def assert_own(self, value, *args):
        """No list occurs twice in a result, and none of it belongs to an argument."""
        lists = lists_within(value)
        told = [id(found) for found in lists]
        self.assertEqual(len(told), len(set(told)))
        taken = {id(found) for arg in args for found in lists_within(arg)}
        self.assertFalse(taken & set(told))

    def assert_free(self, call, *args):
        """A call leaves its arguments, and what it told, once changed, changes no later answer."""
        ahead = copy.deepcopy(args)
        told = call(*args)
        self.assertEqual(ahead, args)
        self.assert_own(told, *args)
        kept = copy.deepcopy(told)
        for found in lists_within(told):
            found.append("spoilt")
        self.assertEqual(ahead, args)
        self.assertEqual(call(*args), kept)
        return kept
