"""Shops, the things that bear their boxes, and ticks."""

from tickcounts.checks import is_name
from tickcounts.errors import InvalidItem, InvalidList, InvalidShop, InvalidThing, InvalidTicks, UnknownName

MOST_GROUPS = 4
MOST_BOXES = 5
MODES = ("or", "and")
AMOUNTS = ("one", "many")


class Shop:
    """A list of groups; a group is a tuple (name, mode, bears, boxes)."""

    def __init__(self, groups):
        if not isinstance(groups, list) or not 1 <= len(groups) <= MOST_GROUPS:
            raise InvalidList(groups)
        ahead = []
        for group in groups:
            if not is_group(group) or group[0] in ahead:
                raise InvalidItem(group)
            ahead.append(group[0])
        # For the package alone, which neither changes them nor hands them out. The rows are kept since
        # most of the time of a call goes into telling whether things and ticks are such. Those of things are in order.
        self.layout = copy_groups(groups)
        self.tick_rows = [bearable("many", boxes) for name, mode, bears, boxes in groups]
        self.thing_rows = [sorted(bearable(bears, boxes)) for name, mode, bears, boxes in groups]

    def __eq__(self, other):
        return isinstance(other, Shop) and self.layout == other.layout

    def groups(self):
        """The list of the groups."""
        return copy_groups(self.layout)

    def names(self):
        """The list of the names of the groups."""
        return [name for name, mode, bears, boxes in self.layout]

    def boxes(self, group):
        """The list of the boxes of a group."""
        for name, mode, bears, boxes in self.layout:
            if name == group:
                return list(boxes)
        raise UnknownName(group)


def is_group(value):
    """Whether a value is a tuple that can be a group of a shop."""
    if not isinstance(value, tuple) or len(value) != 4:
        return False
    name, mode, bears, boxes = value
    return is_name(name) and mode in MODES and bears in AMOUNTS and are_boxes(boxes)


def are_boxes(value):
    """Whether a value is a list that can be the boxes of a group."""
    if not isinstance(value, list) or not 1 <= len(value) <= MOST_BOXES:
        return False
    # Only names may get into the set: other values may have no hash.
    return all([is_name(box) for box in value]) and len(set(value)) == len(value)


def copy_groups(groups):
    """A list equal to the groups that shares no list with them."""
    return [(name, mode, bears, list(boxes)) for name, mode, bears, boxes in groups]


def copy_rows(rows):
    """A list equal to a thing or ticks that shares no list with it."""
    return [list(row) for row in rows]


def is_thing(shop, value):
    """Whether a value is a thing of a shop."""
    need_shop(shop)
    return has_rows(shop.thing_rows, value)


def is_ticks(shop, value):
    """Whether a value is ticks of a shop."""
    need_shop(shop)
    return has_rows(shop.tick_rows, value)


def has_rows(choices, value):
    """Whether a value is a list of one row of each of the choices, in their order."""
    if not isinstance(value, list) or len(value) != len(choices):
        return False
    for row, rows in zip(value, choices):
        if row not in rows:
            return False
    return True


def need_shop(shop):
    """Raise InvalidShop unless a value is a shop."""
    if not isinstance(shop, Shop):
        raise InvalidShop(shop)


def need_thing(shop, thing):
    """Raise InvalidThing unless a value is a thing of a shop."""
    if not has_rows(shop.thing_rows, thing):
        raise InvalidThing(thing)


def need_ticks(shop, ticks):
    """Raise InvalidTicks unless a value is ticks of a shop."""
    if not has_rows(shop.tick_rows, ticks):
        raise InvalidTicks(ticks)


def need_box(shop, group, box):
    """Raise UnknownName unless these are the names of a group of a shop and of a box of it."""
    if box not in shop.boxes(group):
        raise UnknownName(box)


def all_things(shop):
    """The list, in order, of all things of a shop."""
    need_shop(shop)
    things = [[]]
    for rows in shop.thing_rows:
        things = [[*thing, row] for thing in things for row in rows]
    # So far the things share their rows, and the caller may change each one alone.
    return [copy_rows(thing) for thing in things]


def bearable(bears, boxes):
    """The list of the lists of boxes of one group that a thing can bear."""
    if bears == "one":
        return [[box] for box in boxes]
    rows = [[]]
    for box in boxes:
        rows = rows + [[*row, box] for row in rows]
    return rows


def met(shop, thing, ticks):
    """For each group whether a thing meets the ticks in it."""
    need_shop(shop)
    need_thing(shop, thing)
    need_ticks(shop, ticks)
    return [
        meets_row(mode, borne, ticked)
        for (name, mode, bears, boxes), borne, ticked in zip(shop.layout, thing, ticks)
    ]


def meets(shop, thing, ticks):
    """Whether a thing meets the ticks in each group."""
    return all(met(shop, thing, ticks))


def meets_row(mode, borne, ticked):
    """Whether who bears these boxes of a group meets what is ticked in it."""
    # In mode "or" a ticked box that is borne decides it, in mode "and" one that is not.
    decides = mode == "or"
    for box in ticked:
        if (box in borne) == decides:
            return decides
    return not decides or not ticked


def turned(groups, ticks, at, box):
    """The ticks with one box of the group at a place ticked if it was not, else unticked; other rows are shared."""
    name, mode, bears, boxes = groups[at]
    rows = list(ticks)
    rows[at] = [other for other in boxes if (other in ticks[at]) != (other == box)]
    return rows
