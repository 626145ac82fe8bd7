"""Rules by which the number beside a box comes about, and the numbers that they show."""

from tickcounts.errors import InvalidRule, InvalidWord
from tickcounts.shops import need_box
from tickcounts.stores import need_store_and_ticks
from tickcounts.tallies import Tally, View, many_bits

OWN = ("keep", "leave", "add", "only")
OTHERS = ("keep", "leave")
COUNTS = ("things", "models")


class Rule:
    """Which items are counted for a box, and how."""

    def __init__(self, own, others, bears, counts, less):
        need_word(own, own in OWN)
        need_word(others, others in OTHERS)
        # 0 and 1 are equal to Booleans and none.
        need_word(bears, isinstance(bears, bool))
        need_word(counts, counts in COUNTS)
        need_word(less, isinstance(less, bool))
        self.own = own
        self.others = others
        self.bears = bears
        self.counts = counts
        self.less = less

    def __eq__(self, other):
        return (
            isinstance(other, Rule) and self.own == other.own and self.others == other.others
            and self.bears == other.bears and self.counts == other.counts and self.less == other.less
        )


def need_word(value, fits):
    """Raise InvalidWord with a value that does not fit."""
    if not fits:
        raise InvalidWord(value)


def need_rule(rule):
    """Raise InvalidRule unless a value is a rule."""
    if not isinstance(rule, Rule):
        raise InvalidRule(rule)


def shown(shop, store, ticks, rule, group, box):
    """The number that a rule shows beside a box."""
    need_store_and_ticks(shop, store, ticks)
    need_rule(rule)
    need_box(shop, group, box)
    view = View(Tally(shop.layout, store), ticks)
    return number_beside(view, rule, shop.names().index(group), box)


def board(shop, store, ticks, rule):
    """For each group the list of the numbers that a rule shows beside its boxes."""
    need_store_and_ticks(shop, store, ticks)
    need_rule(rule)
    return numbers_beside_all(shop.layout, store, ticks, rule)


def numbers_beside_all(groups, store, ticks, rule):
    """What board tells, for the groups of a shop and what is known to fit them."""
    view = View(Tally(groups, store), ticks)
    return [
        [number_beside(view, rule, at, box) for box in boxes]
        for at, (name, mode, bears, boxes) in enumerate(groups)
    ]


def number_beside(view, rule, at, box):
    """The number that a rule shows beside a box of the group at a place."""
    number = number_of(view.tally, rule, counted(view, rule, at, box))
    if rule.less:
        return number - number_of(view.tally, rule, view.found())
    return number


def number_of(tally, rule, bits):
    """The number of some items, or of their models, as the rule counts."""
    return tally.many_models(bits) if rule.counts == "models" else many_bits(bits)


def counted(view, rule, at, box):
    """The items, as bits, that a rule counts for a box of the group at a place."""
    told = view.tally.meeting(at, own_ticks(rule, view.ticked[at], box))
    if rule.others == "keep":
        told = told & view.met_elsewhere(at)
    if rule.bears:
        told = told & view.tally.bearing[at][box]
    return told


def own_ticks(rule, ticked, box):
    """What a rule takes as ticked in the box's own group, where these boxes are."""
    if rule.own == "keep":
        return ticked
    if rule.own == "leave":
        return []
    if rule.own == "only":
        return [box]
    # A box that is ticked already may stand here twice: who meets the ticks is the same.
    return [*ticked, box]
