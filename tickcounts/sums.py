"""Rows of whole numbers, asked which of them are sums of multiples of others."""

from math import gcd


class Reduced:
    """Rows that have been taken, changed so that each has a column where only it has a number other than 0.

    That column, its pivot, is the first in which it has such a number. So the pivots are
    the columns that are no sums of multiples of those ahead of them.
    """

    def __init__(self, many):
        # Only the first columns may be pivots; what stands behind them is changed as they are.
        self.many = many
        self.rows = {}

    def take(self, row):
        """Take one more row unless it is a sum of multiples of those taken so far, and tell whether it was taken."""
        for pivot, other in self.rows.items():
            row = cleared(row, pivot, other)
        places = [at for at, number in enumerate(row[:self.many]) if number]
        if not places:
            return False
        lead, row = places[0], shortened(row)
        rows = {pivot: shortened(cleared(other, lead, row)) for pivot, other in self.rows.items()}
        rows[lead] = row
        self.rows = rows
        return True


def cleared(row, pivot, other):
    """A multiple of a row less a multiple of another one, so that there is 0 in the pivot of that one."""
    if row[pivot] == 0:
        return row
    common = gcd(row[pivot], other[pivot])
    by, off = other[pivot] // common, row[pivot] // common
    return [by * number - off * taken for number, taken in zip(row, other)]


def shortened(row):
    """A row that is not all 0, divided by the greatest number that divides all of it."""
    common = 0
    for number in row:
        common = gcd(common, number)
    return [number // common for number in row]
