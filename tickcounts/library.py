"""Libraries: questions of a shop that are kept by names, step by step."""

from tickcounts.checks import is_name
from tickcounts.errors import InvalidName, NothingToUndo, TakenName, UnknownName
from tickcounts.shops import copy_rows, need_shop
from tickcounts.spans import fewest, first_parted, need_question, number_for
from tickcounts.stores import need_store


class Library:
    """Questions of a shop by names, and the steps that led to them.

    The dict of the questions is in the order of the names. Neither it nor a question in it is ever
    changed, but replaced by another: so each step can keep the one ahead of it, and copies can share them.
    """

    def __init__(self, shop):
        need_shop(shop)
        self.shop = shop
        self._kept = {}
        self._past = []

    def __eq__(self, other):
        return isinstance(other, Library) and self.shop == other.shop and self._kept == other._kept

    def __len__(self):
        return len(self._kept)

    def __contains__(self, name):
        # Only strings are asked for: other values may have no hash.
        return isinstance(name, str) and name in self._kept

    def __iter__(self):
        return iter(self._kept)

    def put(self, name, question):
        """Keep one more question."""
        if not is_name(name):
            raise InvalidName(name)
        if name in self._kept:
            raise TakenName(name)
        need_question(self.shop, question)
        self._do(("put", name), {**self._kept, name: copy_question(question)})

    def drop(self, name):
        """Take a question out."""
        self._need_kept(name)
        self._do(("drop", name), {other: self._kept[other] for other in self._kept if other != name})

    def change(self, name, question):
        """Replace a question."""
        self._need_kept(name)
        need_question(self.shop, question)
        self._do(("change", name), {**self._kept, name: copy_question(question)})

    def _need_kept(self, name):
        """Raise UnknownName unless a question is kept by that name."""
        if name not in self:
            raise UnknownName(name)

    def _do(self, step, kept):
        """Note a step with what was ahead of it, and go on with these questions."""
        self._past.append((step, self._kept))
        self._kept = {name: kept[name] for name in sorted(list(kept))}

    def question_of(self, name):
        """The question that is kept by that name."""
        self._need_kept(name)
        return copy_question(self._kept[name])

    def names(self):
        """The list of the names, in order."""
        return list(self._kept)

    def numbers(self, store):
        """The list, in the order of the names, of the tuples (name, number) for a store."""
        need_store(self.shop, store)
        return [(name, number_for(self.shop, store, question)) for name, question in self._kept.items()]

    def needed(self):
        """The list, in order, of the names of the fewest questions from which all follow."""
        names = self.names()
        lot = fewest(self.shop, list(self._kept.values()), [1] * len(names))
        return [names[place] for place in lot]

    def alike(self, question):
        """The list, in order, of the names of the questions that always have the same number as this one."""
        need_question(self.shop, question)
        return [name for name, kept in self._kept.items() if first_parted(self.shop, question, kept) is None]

    def back(self):
        """Undo the last step that has not been undone."""
        if not self._past:
            raise NothingToUndo()
        _, self._kept = self._past.pop()

    def log(self):
        """The list of the steps that have not been undone, from the first to the last."""
        return [step for step, kept in self._past]

    def copy(self):
        """A library with the same questions and steps that goes on by itself."""
        twin = Library(self.shop)
        twin._kept = self._kept
        twin._past = list(self._past)
        return twin


def copy_question(question):
    """A tuple equal to a question that shares no list with it."""
    ticks, borne = question
    return copy_rows(ticks), copy_rows(borne)
