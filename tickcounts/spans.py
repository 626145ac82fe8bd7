"""Questions of a shop, and which of their numbers follow from others for all stores."""

from math import gcd, lcm

from tickcounts.checks import is_whole
from tickcounts.errors import InvalidItem, InvalidList, InvalidNumber
from tickcounts.kinds import first_kinds, numbers_of, spanning_kinds
from tickcounts.rules import need_rule, own_ticks
from tickcounts.shops import copy_rows, has_rows, need_box, need_shop, need_ticks
from tickcounts.stores import fits_store, need_store, places, store_with
from tickcounts.sums import Reduced

MOST_ITEMS = 200


def is_question(shop, value):
    """Whether a value is a question of a shop: a tuple (ticks, borne), both ticks of the shop."""
    need_shop(shop)
    return fits_question(shop, value)


def fits_question(shop, value):
    """Whether a value is a question of what is known to be a shop."""
    if not isinstance(value, tuple) or len(value) != 2:
        return False
    ticks, borne = value
    return has_rows(shop.tick_rows, ticks) and has_rows(shop.tick_rows, borne)


def need_question(shop, question):
    """Raise InvalidItem unless a value is a question of a shop."""
    if not fits_question(shop, question):
        raise InvalidItem(question)


def need_questions(shop, questions):
    """Raise the error of the first of the two that is no shop or no list of questions of it."""
    need_shop(shop)
    if not isinstance(questions, list):
        raise InvalidList(questions)
    for question in questions:
        need_question(shop, question)


def need_numbers(questions, numbers):
    """Raise InvalidList or InvalidNumber unless a value is a list of one number of at least 0 for each question."""
    if not isinstance(numbers, list) or len(numbers) != len(questions):
        raise InvalidList(numbers)
    for number in numbers:
        if not is_whole(number) or number < 0:
            raise InvalidNumber(number)


def count_of(shop, store, question):
    """The number of the items of a store that a question counts."""
    need_shop(shop)
    need_store(shop, store)
    need_question(shop, question)
    return number_for(shop, store, question)


def number_for(shop, store, question):
    """What count_of tells of what is known to be such."""
    ticks, borne = question
    found = places(shop.layout, store, ticks)
    for at, boxes in enumerate(borne):
        for box in boxes:
            found = [place for place in found if box in store[place][1][at]]
    return len(found)


def question_of(shop, ticks, rule, group, box):
    """The question that counts what a rule counts for a box."""
    need_shop(shop)
    need_ticks(shop, ticks)
    need_rule(rule)
    need_box(shop, group, box)
    at = shop.names().index(group)
    own = own_ticks(rule, ticks[at], box)
    asked = copy_rows(ticks) if rule.others == "keep" else [[] for row in ticks]
    asked[at] = [other for other in shop.boxes(group) if other in own]
    borne = [[] for row in ticks]
    if rule.bears:
        borne[at].append(box)
    return asked, borne


def parting(shop, question, other):
    """The first thing in order that just one of two questions counts, None if there is none."""
    need_shop(shop)
    need_question(shop, question)
    need_question(shop, other)
    thing = first_parted(shop, question, other)
    return None if thing is None else copy_rows(thing)


def first_parted(shop, question, other):
    """What parting tells of what are known to be questions, but not free to be handed out."""
    for pattern, thing in first_kinds(shop, [question, other]).items():
        if pattern in (1, 2):
            return thing
    return None


def follows(shop, questions, wanted):
    """How the number of a question comes of those of others, or two stores that show that it doesn't.

    The first is a tuple ("sum", factors), the second one a tuple ("apart", store, other).
    """
    need_questions(shop, questions)
    need_question(shop, wanted)
    many = len(questions)
    kinds = spanning_kinds(shop, [*questions, wanted])
    solved = Reduced(many + 1)
    for place, pattern in enumerate(kinds):
        # The columns behind that of the wanted number tell how often each kind is in a row.
        solved.take(numbers_of(pattern, many + 1) + numbers_of(1 << place, len(kinds)))
    if many not in solved.rows:
        return "sum", [factor_of(solved.rows, place, many) for place in range(many)]
    # This row has 0 for each question, but not for the wanted one.
    often = solved.rows[many][many + 1:]
    things = list(kinds.values())
    return "apart", store_of_kinds(things, often), store_of_kinds(things, [-number for number in often])


def factor_of(rows, place, last):
    """The fraction (top, under) by which the question at a place is multiplied to get the column of the last one."""
    if place not in rows:
        # Without it there are as many questions as are needed.
        return 0, 1
    top, under = rows[place][last], rows[place][place]
    common = gcd(top, under) if under > 0 else -gcd(top, under)
    return top // common, under // common


def store_of_kinds(things, often):
    """The store with each thing as often as is told, and without those that are told below 0."""
    return store_with([thing for thing, number in zip(things, often) for _ in range(number)])


def is_answer(shop, questions, wanted, value):
    """Whether a value is an answer that follows may give."""
    need_questions(shop, questions)
    need_question(shop, wanted)
    if not isinstance(value, tuple):
        return False
    if len(value) == 2 and value[0] == "sum":
        return are_factors(value[1], len(questions)) and sums_up(shop, questions, wanted, value[1])
    if len(value) == 3 and value[0] == "apart":
        store, other = value[1:]
        return is_short(shop, store) and is_short(shop, other) and are_apart(shop, questions, wanted, store, other)
    return False


def are_factors(value, many):
    """Whether a value is a list of so many fractions in lowest terms."""
    return isinstance(value, list) and len(value) == many and all([is_factor(item) for item in value])


def is_factor(value):
    """Whether a value is a tuple (top, under) of whole numbers in lowest terms, the second one at least 1."""
    if not isinstance(value, tuple) or len(value) != 2:
        return False
    top, under = value
    return is_whole(top) and is_whole(under) and under >= 1 and gcd(top, under) == 1


def sums_up(shop, questions, wanted, factors):
    """Whether the numbers of the questions, multiplied by the factors, add up to the wanted one for all stores."""
    common = 1
    for top, under in factors:
        common = lcm(common, under)
    wholes = [*[top * (common // under) for top, under in factors], -common]
    # What holds for these kinds holds for all.
    for pattern in spanning_kinds(shop, [*questions, wanted]):
        if sum([whole for place, whole in enumerate(wholes) if pattern >> place & 1]) != 0:
            return False
    return True


def is_short(shop, value):
    """Whether a value is a store that is short enough for an answer."""
    return fits_store(shop, value) and len(value) <= MOST_ITEMS


def are_apart(shop, questions, wanted, store, other):
    """Whether two stores have equal numbers for the questions and unlike ones for the wanted one."""
    for question in questions:
        if number_for(shop, store, question) != number_for(shop, other, question):
            return False
    return number_for(shop, store, wanted) != number_for(shop, other, wanted)


def fewest(shop, questions, prices):
    """The places of the fewest and cheapest questions from which all of a list follow."""
    need_questions(shop, questions)
    need_numbers(questions, prices)
    priced = sorted([(price, at) for at, price in enumerate(prices)])
    order = [place for price, place in priced]
    taken = leading(shop, [questions[place] for place in order])
    return sorted([order[at] for at in taken])


def leading(shop, questions):
    """The places of the questions that do not follow from those ahead of them."""
    many = len(questions)
    solved = Reduced(many)
    for pattern in spanning_kinds(shop, questions):
        solved.take(numbers_of(pattern, many))
    return list(solved.rows)
