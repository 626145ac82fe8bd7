"""The few things and ticks that show all that the numbers of a shop can do.

A number asks of a thing only what it bears in the box's own group, and whether it
meets the ticks of all other groups. So one other group, the partner, stands for all
of these, and of the group and of the partner two boxes each are enough.
"""

from tickcounts.shops import bearable
from tickcounts.stores import store_with
from tickcounts.tallies import Tally, View

FEW = 2


class Scene:
    """A group with the things that make a difference to its numbers, each once, as a tally."""

    def __init__(self, groups, at):
        name, mode, bears, boxes = groups[at]
        self.at = at
        self.group = name
        self.few = boxes[:FEW]
        self.many_groups = len(groups)
        self.partner = partner_of(groups, at)
        self.partner_group, self.partner_few = named_few(groups, self.partner)
        self.kinds = kinds_of(groups, at, self.partner)
        self.tally = Tally(groups, store_with(self.kinds))

    def view(self, ticked, elsewhere):
        """The view with these boxes of the group and those of the partner ticked."""
        ticks = [[] for _ in range(self.many_groups)]
        ticks[self.at] = ticked
        if self.partner is not None:
            ticks[self.partner] = elsewhere
        return View(self.tally, ticks)

    def store_of(self, places):
        """The store, free to be handed out, of the things at some places, all of one model."""
        return store_with([self.kinds[place] for place in places])


def scenes(shop):
    """The scene of each group of a shop."""
    groups = shop.layout
    for at in range(len(groups)):
        yield Scene(groups, at)


def views(scene):
    """The views with each choice of boxes of the group ticked, and a box of the partner that some things bear."""
    for ticked in bearable("many", scene.few):
        yield scene.view(ticked, scene.partner_few[:1])


def steps(scene):
    """The views ahead of one tick more and behind it, with the group and the box of this tick."""
    few, elsewhere = scene.few, scene.partner_few
    for ticked in bearable("many", few):
        for more in few:
            if more not in ticked:
                behind = [box for box in few if box in ticked or box == more]
                yield scene.view(ticked, elsewhere[:1]), scene.view(behind, elsewhere[:1]), (scene.group, more)
        for many, more in enumerate(elsewhere):
            ahead, behind = elsewhere[:many], elsewhere[:many + 1]
            yield scene.view(ticked, ahead), scene.view(ticked, behind), (scene.partner_group, more)


def partner_of(groups, at):
    """The place of the group that stands for all but the one at a place, None if no ticks there tell things apart."""
    others = [place for place in range(len(groups)) if place != at and tells_apart(groups[place])]
    # Only in such a group can one tick more let a thing meet the ticks that it did not meet ahead of it.
    wide = [place for place in others if groups[place][1] == "or" and len(groups[place][3]) > 1]
    best = [*wide, *others]
    return best[0] if best else None


def tells_apart(group):
    """Whether a box of a group, ticked alone, is met by some things and not by others."""
    name, mode, bears, boxes = group
    return bears == "many" or len(boxes) > 1


def named_few(groups, at):
    """The name and few boxes of the group at a place."""
    if at is None:
        return None, []
    name, mode, bears, boxes = groups[at]
    return name, boxes[:FEW]


def kinds_of(groups, at, partner):
    """The things with each choice of few boxes of the group at a place, with the partner's first box and without it."""
    plain = [group[3][:1] for group in groups]
    name, mode, bears, boxes = groups[at]
    kinds = [replaced(plain, at, row) for row in bearable(bears, boxes[:FEW])]
    if partner is None:
        return kinds
    others = groups[partner][3]
    return [replaced(kind, partner, row) for kind in kinds for row in (others[:1], others[1:FEW])]


def replaced(rows, at, row):
    """The rows with another one at a place."""
    told = list(rows)
    told[at] = row
    return told
