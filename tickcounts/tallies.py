"""The items of a store as the bits of integers: bit k stands for the item at place k."""


class Tally:
    """A store, asked which of its items bear a box or meet some ticks."""

    def __init__(self, groups, store):
        self.modes = [mode for name, mode, bears, boxes in groups]
        self.models = [model for model, thing in store]
        self.every = (1 << len(store)) - 1
        self.bearing = bits_of_boxes(groups, store)

    def meeting(self, at, ticked):
        """The items whose things meet what is ticked in the group at a place."""
        if not ticked:
            return self.every
        column = self.bearing[at]
        if self.modes[at] == "or":
            told = 0
            for box in ticked:
                told = told | column[box]
            return told
        told = self.every
        for box in ticked:
            told = told & column[box]
        return told

    def many_models(self, bits):
        """The number of unlike models of some of the items."""
        return len({model for at, model in enumerate(self.models) if bits >> at & 1})


class View:
    """A tally under some ticks."""

    def __init__(self, tally, ticks):
        self.tally = tally
        self.ticked = ticks
        self.met = [tally.meeting(at, row) for at, row in enumerate(ticks)]

    def met_elsewhere(self, at):
        """The items whose things meet the ticks in all groups but the one at a place."""
        told = self.tally.every
        for place, bits in enumerate(self.met):
            if place != at:
                told = told & bits
        return told

    def found(self):
        """The items whose things meet the ticks."""
        return self.met[0] & self.met_elsewhere(0)


def bits_of_boxes(groups, store):
    """For each group a dict that tells for each box which items bear it."""
    columns = [{key: 0 for key in boxes} for name, mode, bears, boxes in groups]
    bit = 1
    for model, thing in store:
        for at, row in enumerate(thing):
            column = columns[at]
            for box in row:
                column[box] += bit
        bit = 2 * bit
    return columns


def many_bits(bits):
    """The number of items."""
    return f"{bits:b}".count("1")


def lowest(bits):
    """The first place of an item, if there is one."""
    return (bits & -bits).bit_length() - 1


def without(bits, others):
    """The items that are not among the others."""
    return bits ^ (bits & others)
