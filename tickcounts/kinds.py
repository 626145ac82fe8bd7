"""The kinds of things of a shop, told apart only by which of some questions count them.

A question counts a thing if it counts the row of boxes that the thing bears in each group.
So of the rows of a group those that the same questions count make one lot, and of each lot
one row is enough. Which questions count a row or a thing is told by the bits of an integer,
its pattern: bit k stands for the question at place k.
"""

from tickcounts.stores import store_with
from tickcounts.sums import Reduced
from tickcounts.tallies import Tally, lowest


def first_kinds(shop, questions):
    """For each pattern of a thing the first thing in order that has it, itself in this order."""
    kinds = whole_kinds(questions)
    for at in range(len(shop.layout)):
        kinds = joined(kinds, lots(shop, questions, at))
    return kinds


def spanning_kinds(shop, questions):
    """Few kinds that speak for all: each pattern of a thing is a sum of multiples of theirs, as rows of numbers.

    What can be left out is so behind each group: with one more row a pattern that is such a sum stays one.
    """
    kinds = whole_kinds(questions)
    for at in range(len(shop.layout)):
        kinds = independent(joined(kinds, lots(shop, questions, at)), len(questions))
    return kinds


def whole_kinds(questions):
    """The one kind ahead of the first group: so far all questions count it."""
    return {(1 << len(questions)) - 1: []}


def joined(kinds, rows):
    """The kinds, each with each of the rows of one more group; of equal patterns the first one stays."""
    told = {}
    for pattern, thing in kinds.items():
        for mask, row in rows:
            if pattern & mask not in told:
                told[pattern & mask] = [*thing, row]
    return told


def independent(kinds, many):
    """The kinds of which the patterns are no sums of multiples of those ahead of them."""
    taken = Reduced(many)
    told = {}
    for pattern, thing in kinds.items():
        if taken.take(numbers_of(pattern, many)):
            told[pattern] = thing
    return told


def numbers_of(pattern, many):
    """The list of the bits of a pattern."""
    return [pattern >> place & 1 for place in range(many)]


def lots(shop, questions, at):
    """The tuples (pattern, row) of the first row of each lot of the group at a place, in the order of the rows."""
    rows = shop.thing_rows[at]
    tally = Tally([shop.layout[at]], store_with([[row] for row in rows]))
    parts = [(0, tally.every)]
    for place, (ticks, borne) in enumerate(questions):
        parts = parted(parts, 1 << place, rows_counted(tally, ticks[at], borne[at]))
    firsts = sorted([(lowest(bits), pattern) for pattern, bits in parts])
    return [(pattern, rows[first]) for first, pattern in firsts]


def rows_counted(tally, ticked, borne):
    """The rows of a tally of one group, as bits, that meet these ticks and bear these boxes."""
    told = tally.meeting(0, ticked)
    for box in borne:
        told = told & tally.bearing[0][box]
    return told


def parted(parts, bit, counted):
    """The lots (pattern, bits of rows), parted further by a question with this bit that counts some of the rows."""
    told = []
    for pattern, bits in parts:
        within = bits & counted
        if within:
            told.append((pattern | bit, within))
        if bits != within:
            told.append((pattern, bits ^ within))
    return told
