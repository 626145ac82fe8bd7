"""Live shops: a store and ticks that are led on, deed by deed."""

from tickcounts.checks import is_name
from tickcounts.errors import InvalidName, Missing, NothingToUndo
from tickcounts.rules import need_rule, numbers_beside_all
from tickcounts.shops import copy_rows, need_box, need_shop, need_thing, turned
from tickcounts.stores import places


class Live:
    """A shop with a store and ticks, and the deeds that led to them.

    The lists of the store and of the ticks are never changed, but replaced by others:
    so each deed can keep those ahead of it, and copies can share them.
    """

    def __init__(self, shop):
        need_shop(shop)
        self.shop = shop
        self._items = []
        self._ticked = [[] for name in shop.names()]
        self._deeds = []

    def __eq__(self, other):
        return (
            isinstance(other, Live) and self.shop == other.shop
            and self._items == other._items and self._ticked == other._ticked
        )

    def __len__(self):
        return len(self._items)

    def put(self, model, thing):
        """Put one more item behind those of the store."""
        need_model_and_thing(self.shop, model, thing)
        item = (model, copy_rows(thing))
        self._do(("put", *item), [*self._items, item], self._ticked)

    def take(self, model, thing):
        """Take the first equal item out of the store."""
        need_model_and_thing(self.shop, model, thing)
        if (model, thing) not in self._items:
            raise Missing((model, thing))
        at = self._items.index((model, thing))
        self._do(("take", model, copy_rows(thing)), self._items[:at] + self._items[at + 1:], self._ticked)

    def tick(self, group, box):
        """Tick a box, or let it be unticked if it is ticked."""
        need_box(self.shop, group, box)
        at = self.shop.names().index(group)
        self._do(("tick", group, box), self._items, turned(self.shop.layout, self._ticked, at, box))

    def clear(self):
        """Let all boxes be unticked."""
        self._do(("clear",), self._items, [[] for row in self._ticked])

    def _do(self, deed, items, ticked):
        """Note a deed with what was ahead of it, and go on with this store and these ticks."""
        self._deeds.append((deed, self._items, self._ticked))
        self._items = items
        self._ticked = ticked

    def store(self):
        """The store."""
        return [(model, copy_rows(thing)) for model, thing in self._items]

    def ticks(self):
        """The ticks."""
        return copy_rows(self._ticked)

    def hits(self):
        """The list of the places of the items that the ticks find."""
        return places(self.shop.layout, self._items, self._ticked)

    def board(self, rule):
        """For each group the list of the numbers that a rule shows beside its boxes."""
        need_rule(rule)
        return numbers_beside_all(self.shop.layout, self._items, self._ticked, rule)

    def back(self):
        """Undo the last deed that has not been undone."""
        if not self._deeds:
            raise NothingToUndo()
        _, self._items, self._ticked = self._deeds.pop()

    def log(self):
        """The list of the deeds that have not been undone, from the first to the last."""
        return [copy_deed(deed) for deed, items, ticked in self._deeds]

    def copy(self):
        """A live shop with the same store, ticks and deeds that goes on by itself."""
        twin = Live(self.shop)
        twin._items = self._items
        twin._ticked = self._ticked
        twin._deeds = list(self._deeds)
        return twin


def need_model_and_thing(shop, model, thing):
    """Raise InvalidName or InvalidThing unless these can be an item of a store."""
    if not is_name(model):
        raise InvalidName(model)
    need_thing(shop, thing)


def copy_deed(deed):
    """A tuple equal to a deed that shares no list with it."""
    if deed[0] in ("put", "take"):
        kind, model, thing = deed
        return kind, model, copy_rows(thing)
    return deed
