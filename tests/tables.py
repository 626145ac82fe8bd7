"""All numbers of all rules for all stores of few items of a small shop, worked out by the plain words."""

import itertools

from tests import helper

MODELS = {1: ["a"], 2: ["aa", "ab"], 3: ["aaa", "aab", "aba", "baa", "abc"]}


class Table:
    """Tells of how many items the least store is that breaks a promise, by trying all stores of up to `most` items."""

    def __init__(self, groups, most):
        self.groups = groups
        self.most = most
        self.things = helper.every_thing(groups)
        self.ticks = helper.every_ticks(groups)
        self.spots = [(at, box) for at, group in enumerate(groups) for box in group[3]]
        self.stores = {many: self.stores_with(many) for many in range(1, most + 1)}
        self.counts = {}
        self.known = {}

    def stores_with(self, many):
        """Tuples of the places of the things and of their models."""
        chosen = itertools.combinations_with_replacement(range(len(self.things)), many)
        return [(places, models) for places in chosen for models in MODELS[many]]

    def counted(self, ticks, words, at, box):
        """The places of the things that a rule counts for a box."""
        changed = helper.plain_ticks(ticks, words, at, box)
        return self.lot([
            all(helper.plainly_meets(self.groups, thing, changed)) and (not words[2] or box in thing[at])
            for thing in self.things
        ])

    def found(self, ticks):
        return self.lot([all(helper.plainly_meets(self.groups, thing, ticks)) for thing in self.things])

    @staticmethod
    def lot(flags):
        return tuple(place for place, flag in enumerate(flags) if flag)

    def numbers(self, lot, counts, many):
        """For each store of so many items the number of things or models of it that are in a lot."""
        key = lot, counts, many
        if key not in self.counts:
            told = []
            for places, models in self.stores[many]:
                inside = [model for place, model in zip(places, models) if place in lot]
                told.append(len(inside) if counts == "things" else len(set(inside)))
            self.counts[key] = told
        return self.counts[key]

    def shown(self, words, many):
        """For each ticks and each spot the list of the numbers shown for all stores of so many items."""
        key = words, many
        if key not in self.known:
            told = {}
            for which, ticks in enumerate(self.ticks):
                found = self.numbers(self.found(ticks), words[3], many)
                for at, box in self.spots:
                    numbers = self.numbers(self.counted(ticks, words, at, box), words[3], many)
                    if words[4]:
                        numbers = [number - other for number, other in zip(numbers, found)]
                    told[which, at, box] = numbers
            self.known[key] = told
        return self.known[key]

    def least(self, breaks, *given):
        """The least number of items with which something breaks, None if there is none up to `most`."""
        for many in range(1, self.most + 1):
            if breaks(many, *given):
                return many
        return None

    def unlike(self, words, others):
        return self.least(lambda many: self.shown(words, many) != self.shown(others, many))

    def clicks(self, words, many):
        """Pairs of the shown numbers and those of what is found behind the tick, for unticked boxes."""
        told, right = self.shown(words, many), self.shown(("add", "keep", False, words[3], False), many)
        return [(told[spot], right[spot]) for spot in told if spot[2] not in self.ticks[spot[0]][spot[1]]]

    def click_right(self, words):
        return self.least(lambda many: any(told != right for told, right in self.clicks(words, many)))

    def nought_right(self, words):
        return self.least(lambda many: any(
            number == 0 and behind > 0
            for told, right in self.clicks(words, many) for number, behind in zip(told, right)
        ))

    def falling(self, words):
        return self.least(lambda many: any(
            later > number
            for ahead, behind in self.steps() for at, box in self.spots
            for number, later in zip(
                self.shown(words, many)[ahead, at, box], self.shown(words, many)[behind, at, box])
        ))

    def steps(self):
        """Pairs of ticks and ticks with one box more, as places in the list of all ticks."""
        return [
            (which, self.ticks.index(helper.with_box(self.groups, ticks, at, box)))
            for which, ticks in enumerate(self.ticks) for at, box in self.spots if box not in ticks[at]
        ]

    def sum_right(self, words, at):
        return self.least(lambda many: any(
            [sum(numbers) for numbers in zip(*[self.shown(words, many)[which, at, box] for box in self.groups[at][3]])]
            != self.numbers(self.found(ticks), words[3], many)
            for which, ticks in enumerate(self.ticks)
        ))

    def same_order(self, words, others):
        return self.least(lambda many: self.orders(words, many) != self.orders(others, many))

    def orders(self, words, many):
        """For each ticks and two boxes of a group whether the one shows a greater number, for all stores."""
        key = "orders", words, many
        if key not in self.known:
            told = self.shown(words, many)
            self.known[key] = [
                [number > other for number, other in zip(told[which, at, box], told[which, at, second])]
                for which in range(len(self.ticks)) for at, group in enumerate(self.groups)
                for box, second in itertools.permutations(group[3], 2)
            ]
        return self.known[key]
