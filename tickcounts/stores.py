"""Stores, and what of them the ticks find."""

from tickcounts.checks import is_name
from tickcounts.errors import InvalidStore
from tickcounts.shops import copy_rows, meets_row, need_shop, need_ticks
from tickcounts.tallies import Tally, View

MODEL = "item"


def store_with(things):
    """The store, free to be handed out, of some things, all of one model."""
    return [(MODEL, copy_rows(thing)) for thing in things]


def is_store(shop, value):
    """Whether a value is a store of a shop."""
    need_shop(shop)
    return fits_store(shop, value)


def fits_store(shop, value):
    """Whether a value is a store of what is known to be a shop."""
    if not isinstance(value, list):
        return False
    many = len(shop.thing_rows)
    for item in value:
        if not isinstance(item, tuple) or len(item) != 2:
            return False
        model, thing = item
        if not is_name(model) or not isinstance(thing, list) or len(thing) != many:
            return False
    # Group by group, which takes less time than item by item.
    for at, rows in enumerate(shop.thing_rows):
        for model, thing in value:
            if thing[at] not in rows:
                return False
    return True


def need_store(shop, store):
    """Raise InvalidStore unless a value is a store of a shop."""
    if not fits_store(shop, store):
        raise InvalidStore(store)


def need_store_and_ticks(shop, store, ticks):
    """Raise the error of the first of the three that is not what it has to be."""
    need_shop(shop)
    need_store(shop, store)
    need_ticks(shop, ticks)


def hits(shop, store, ticks):
    """The list of the places of the items that the ticks find."""
    need_store_and_ticks(shop, store, ticks)
    return places(shop.layout, store, ticks)


def places(groups, store, ticks):
    """What hits tells, for the groups of a shop and what is known to fit them."""
    found = list(range(len(store)))
    for at, ticked in enumerate(ticks):
        if len(ticked) > 1 and groups[at][1] == "or":
            found = [place for place in found if meets_row("or", store[place][1][at], ticked)]
        else:
            for box in ticked:
                found = [place for place in found if box in store[place][1][at]]
    return found


def models(shop, store, ticks):
    """The list, in order and each once, of the models that the ticks find."""
    return sorted({store[at][0] for at in hits(shop, store, ticks)})


def dead(shop, store, ticks):
    """The list of the tuples (group, box) of the unticked boxes behind whose ticking nothing is found."""
    need_store_and_ticks(shop, store, ticks)
    view = View(Tally(shop.layout, store), ticks)
    told = []
    for at, (name, mode, bears, boxes) in enumerate(shop.layout):
        elsewhere = view.met_elsewhere(at)
        for box in boxes:
            if box not in ticks[at] and not elsewhere & view.tally.meeting(at, [*ticks[at], box]):
                told.append((name, box))
    return told


def idle(shop, store, ticks):
    """The list of the tuples (group, box) of the ticked boxes without which the same is found."""
    need_store_and_ticks(shop, store, ticks)
    view = View(Tally(shop.layout, store), ticks)
    found = view.found()
    told = []
    for at, (name, mode, bears, boxes) in enumerate(shop.layout):
        elsewhere = view.met_elsewhere(at)
        for box in ticks[at]:
            rest = [other for other in ticks[at] if other != box]
            if elsewhere & view.tally.meeting(at, rest) == found:
                told.append((name, box))
    return told
