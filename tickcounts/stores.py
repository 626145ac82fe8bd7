"""Stores, and what of them the ticks find."""

from tickcounts.checks import is_name
from tickcounts.errors import InvalidStore
from tickcounts.shops import fits_thing, met_groups, need_shop, need_ticks, turned


def is_store(shop, value):
    """Whether a value is a store of a shop."""
    need_shop(shop)
    return fits_store(shop.groups(), value)


def fits_store(groups, value):
    """Whether a value is a store of a shop with these groups."""
    return isinstance(value, list) and all([fits_item(groups, item) for item in value])


def fits_item(groups, value):
    """Whether a value is a tuple of a model and a thing of a shop with these groups."""
    if not isinstance(value, tuple) or len(value) != 2:
        return False
    model, thing = value
    return is_name(model) and fits_thing(groups, thing)


def need_store(shop, store):
    """Raise InvalidStore unless a value is a store of a shop."""
    if not fits_store(shop.groups(), store):
        raise InvalidStore(store)


def need_store_and_ticks(shop, store, ticks):
    """Raise the error of the first of the three that is not what it has to be."""
    need_shop(shop)
    need_store(shop, store)
    need_ticks(shop, ticks)


def hits(shop, store, ticks):
    """The list of the places of the items that the ticks find."""
    need_store_and_ticks(shop, store, ticks)
    return places(shop.groups(), store, ticks)


def places(groups, store, ticks):
    """What hits tells, for the groups of a shop and what is known to fit them."""
    return [at for at, (model, thing) in enumerate(store) if all(met_groups(groups, thing, ticks))]


def models(shop, store, ticks):
    """The list, in order and each once, of the models that the ticks find."""
    return sorted({store[at][0] for at in hits(shop, store, ticks)})


def dead(shop, store, ticks):
    """The list of the tuples (group, box) of the unticked boxes behind whose ticking nothing is found."""
    need_store_and_ticks(shop, store, ticks)
    groups = shop.groups()
    told = []
    for at, (name, mode, bears, boxes) in enumerate(groups):
        for box in boxes:
            if box not in ticks[at] and not places(groups, store, turned(groups, ticks, at, box)):
                told.append((name, box))
    return told


def idle(shop, store, ticks):
    """The list of the tuples (group, box) of the ticked boxes without which the same is found."""
    need_store_and_ticks(shop, store, ticks)
    groups = shop.groups()
    found = places(groups, store, ticks)
    told = []
    for at, (name, mode, bears, boxes) in enumerate(groups):
        for box in ticks[at]:
            if places(groups, store, turned(groups, ticks, at, box)) == found:
                told.append((name, box))
    return told
