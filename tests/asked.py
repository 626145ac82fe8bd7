"""What the tests of questions use: questions, and what the document's plain words say of their numbers."""

import itertools
from fractions import Fraction
from math import gcd

from tests import helper


def counts(groups, question, thing):
    """What the document says of whether a question counts a thing."""
    ticks, borne = question
    return all(helper.plainly_meets(groups, thing, ticks)) and all(
        set(boxes) <= set(row) for boxes, row in zip(borne, thing))


def number(groups, store, question):
    """The number of a question for a store."""
    return sum([counts(groups, question, thing) for _, thing in store])


def column(groups, question):
    """For each thing, in order, 1 if a question counts it, else 0."""
    return [int(counts(groups, question, thing)) for thing in sorted(helper.every_thing(groups))]


def question(groups, chance, ticked=0.35, borne=0.15):
    """A question with each box ticked, and borne, by chance."""
    return (
        [[box for box in group[3] if chance.random() < ticked] for group in groups],
        [[box for box in group[3] if chance.random() < borne] for group in groups],
    )


def questions(groups, chance, many, *odds):
    return [question(groups, chance, *odds) for _ in range(many)]


def every_question(groups):
    """All questions of a shop with these groups."""
    return list(itertools.product(helper.every_ticks(groups), helper.every_ticks(groups)))


def box_questions(groups):
    """The questions for all boxes with nothing ticked and that box borne."""
    return [
        (nothing(groups), [[box] if place == at else [] for place in range(len(groups))])
        for at, group in enumerate(groups) for box in group[3]
    ]


def nothing(groups):
    return [[] for _ in groups]


def rank(rows):
    """How many rows there are that are no sums of multiples of others."""
    told, rows = 0, [[Fraction(one) for one in row] for row in rows]
    for at in range(len(rows[0]) if rows else 0):
        lead = next((row for row in rows[told:] if row[at]), None)
        if lead is not None:
            rows.remove(lead)
            rows = [*rows[:told], lead, *[
                [one - row[at] / lead[at] * other for one, other in zip(row, lead)] for row in rows[told:]]]
            told += 1
    return told


def plainly_follows(groups, given, wanted):
    """Whether a number follows from others for all stores, by the ranks over all things."""
    rows = [column(groups, one) for one in given]
    return rank(rows) == rank([*rows, column(groups, wanted)])


def is_plain_answer(groups, given, wanted, value):
    """What the document says of answers, for values of the right form."""
    if value[0] == "apart":
        return (
            max(len(store) for store in value[1:]) <= 200
            and all(number(groups, value[1], one) == number(groups, value[2], one) for one in given)
            and number(groups, value[1], wanted) != number(groups, value[2], wanted)
        )
    rows = zip(*[column(groups, one) for one in [*given, wanted]])
    return (
        len(value[1]) == len(given)
        and all(under >= 1 and gcd(top, under) == 1 for top, under in value[1])
        and all(
            sum(Fraction(*factor) * one for factor, one in zip(value[1], row)) == row[-1] for row in rows)
    )


def plain_fewest(groups, given, prices):
    """What the document says of the fewest questions, from a walk through all lots."""
    columns = [column(groups, one) for one in given]
    whole = rank(columns)
    for many in range(len(given) + 1):
        lots = [
            list(lot) for lot in itertools.combinations(range(len(given)), many)
            if rank([columns[place] for place in lot]) == whole
        ]
        if lots:
            return min(lots, key=lambda lot: (sum(prices[place] for place in lot), lot))
    raise AssertionError("all of them always do")


def plain_bounds(groups, given, numbers, wanted):
    """What the document says of the bounds, from a walk through all stores that the numbers allow."""
    kinds = sorted({
        (tuple(int(counts(groups, one, thing)) for one in given), int(counts(groups, wanted, thing)))
        for thing in helper.every_thing(groups)
    })
    told = set(walk([(shape, worth) for shape, worth in kinds if any(shape)], tuple(numbers), 0))
    if not told:
        return None
    free = any(worth and not any(shape) for shape, worth in kinds)
    return min(told), None if free else max(told)


def walk(kinds, left, worth):
    """The numbers of the wanted question of all stores of these kinds with such numbers."""
    if not any(left):
        yield worth
    elif kinds:
        shape, adds = kinds[0]
        while min(left) >= 0:
            yield from walk(kinds[1:], left, worth)
            left = tuple(one - off for one, off in zip(left, shape))
            worth += adds
