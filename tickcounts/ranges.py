"""Between which bounds a hidden number lies once the numbers of some questions are known."""

from tickcounts.kinds import first_kinds
from tickcounts.spans import need_numbers, need_question, need_questions
from tickcounts.stores import store_with


class Filling:
    """The ways to reach some numbers with things, asked for one with the least sum of weights.

    A kind is a tuple (pattern, weight, thing): its pattern tells to which of the numbers each of its things adds 1.
    The weights are -1, 0 and 1, and no pattern is 0. A state stands for as many numbers, of which none is above the
    given one: those of 0 stand first, the given ones last, and the numbers of the first question change fastest.
    """

    def __init__(self, numbers, kinds):
        self.most = sum(numbers)
        self.masks = masks_of(numbers)
        self.moves = moves_of(numbers, kinds)
        self.sums = self._least_sums()

    def _least_sums(self):
        """For each state the least sum of weights; more than any that there is where it can't be reached."""
        far = 2 * self.most + 1
        sums = [0]
        for state, mask in enumerate(self.masks[1:], start=1):
            told = [sums[state - offset] + weight for offset, weight, thing in self.moves[mask]]
            sums.append(min(told, default=far))
        return sums

    def least(self):
        """The least sum of weights, None if the numbers can't be reached."""
        return self.sums[-1] if self.sums[-1] <= self.most else None

    def store(self):
        """A store with the least sum of weights, where there is one."""
        state = len(self.sums) - 1
        things = []
        while state > 0:
            for offset, weight, thing in self.moves[self.masks[state]]:
                if self.sums[state - offset] + weight == self.sums[state]:
                    things.append(thing)
                    state = state - offset
                    break
        return store_with(things)


def masks_of(numbers):
    """For each state the numbers in it that are not 0, as bits."""
    masks = [0]
    for place, number in enumerate(numbers):
        masks = masks + [mask | 1 << place for mask in masks] * number
    return masks


def moves_of(numbers, kinds):
    """For each mask the tuples (offset, weight, thing) of the kinds that a state with it may hold one of.

    The state without that one is the one so many places ahead.
    """
    moves = [(pattern, offset_of(numbers, pattern), weight, thing) for pattern, weight, thing in kinds]
    return [
        [(offset, weight, thing) for pattern, offset, weight, thing in moves if pattern & mask == pattern]
        for mask in range(1 << len(numbers))
    ]


def offset_of(numbers, pattern):
    """How far apart the states are of which one has 1 less of each number in a pattern."""
    told = 0
    stride = 1
    for place, number in enumerate(numbers):
        if pattern >> place & 1:
            told = told + stride
        stride = stride * (number + 1)
    return told


def need_asked(shop, questions, numbers, wanted):
    """Raise the error of the first of the four that is not what it has to be."""
    need_questions(shop, questions)
    need_numbers(questions, numbers)
    need_question(shop, wanted)


def bounds(shop, questions, numbers, wanted):
    """The least and the greatest number of a question where others have these; None for one that there is not."""
    need_asked(shop, questions, numbers, wanted)
    low, high = fillings(shop, questions, numbers, wanted)
    if low.least() is None:
        return None
    return low.least(), None if high is None else -high.least()


def bound_stores(shop, questions, numbers, wanted):
    """A store with the least and one with the greatest number that bounds tells; None for one that there is not."""
    need_asked(shop, questions, numbers, wanted)
    low, high = fillings(shop, questions, numbers, wanted)
    if low.least() is None:
        return None
    return low.store(), None if high is None else high.store()


def fillings(shop, questions, numbers, wanted):
    """The filling with the fewest things that the wanted question counts, and the one with the most.

    In place of the second one there is None if things can be added that it alone counts.
    """
    kinds = first_kinds(shop, [*questions, wanted])
    bit = 1 << len(questions)
    low = Filling(numbers, lightest(kinds, bit, 1))
    return low, None if bit in kinds else Filling(numbers, lightest(kinds, bit, -1))


def lightest(kinds, bit, weight):
    """The kinds for a filling, of two that the same questions count the lighter one.

    Those that the wanted question, which has this bit, counts have this weight, others 0.
    """
    told = []
    for pattern in range(1, bit):
        choices = [(0, pattern), (weight, pattern | bit)]
        there = [(weighs, whole) for weighs, whole in choices if whole in kinds]
        if there:
            weighs, whole = min(there)
            told.append((pattern, weighs, kinds[whole]))
    return told
