"""The items of a store as the bits of integers: bit k stands for the item at place k."""


class Tally:
    """A store, asked which of its items bear a box or meet some ticks."""

    def __init__(self, groups, store):
        self.modes = [mode for name, mode, bears, boxes in groups]
        self.models = [model for model, thing in store]
        self.every = (1 << len(store)) - 1
        self.bearing = bits_of_boxes(groups, store)

    def meeting(self, at, ticked):
        """The items whose things meet what is ticked in the group at a place."""
        if not ticked:
            return self.every
        bits = [self.bearing[at][box] for box in ticked]
        told = bits[0]
        for more in bits:
            told = told | more if self.modes[at] == "or" else told & more
        return told

    def many_models(self, bits):
        """The number of unlike models of some of the items."""
        return len({model for at, model in enumerate(self.models) if bits >> at & 1})


class View:
    """A tally under some ticks."""

    def __init__(self, tally, ticks):
        self.tally = tally
        self.ticked = ticks
        self.met = [tally.meeting(at, row) for at, row in enumerate(ticks)]

    def met_elsewhere(self, at):
        """The items whose things meet the ticks in all groups but the one at a place."""
        told = self.tally.every
        for place, bits in enumerate(self.met):
            if place != at:
                told = told & bits
        return told

    def found(self):
        """The items whose things meet the ticks."""
        return self.met[0] & self.met_elsewhere(0)


def bits_of_boxes(groups, store):
    """For each group a dict that tells for each box which items bear it."""
    columns = [{box: 0 for box in boxes} for name, mode, bears, boxes in groups]
    for place, (model, thing) in enumerate(store):
        for at, row in enumerate(thing):
            for box in row:
                columns[at][box] += 1 << place
    return columns


def many_bits(bits):
    """The number of items."""
    return f"{bits:b}".count("1")


def lowest(bits):
    """The first place of an item, if there is one."""
    return (bits & -bits).bit_length() - 1


def without(bits, others):
    """The items that are not among the others."""
    return bits ^ (bits & others)
