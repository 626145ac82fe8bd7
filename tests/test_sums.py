"""The rows of whole numbers on which the points [52] and [53] rest."""

import random
import unittest

from tests import asked
from tickcounts.sums import Reduced


class TestReduced(unittest.TestCase):
    def test_rows_that_are_no_sums_of_others_are_taken(self):
        chance = random.Random(90)
        for many in (1, 2, 4, 7):
            for _ in range(40):
                rows, taken = Reduced(many), []
                for _ in range(many + 3):
                    row = [chance.choice([0, 0, 1, -2, 3]) for _ in range(many)]
                    more = asked.rank([*taken, row]) > asked.rank(taken)
                    self.assertIs(rows.take(row), more)
                    taken = [*taken, row] if more else taken
                self.assertEqual(len(rows.rows), asked.rank(taken))

    def test_each_pivot_stands_alone_and_first(self):
        chance = random.Random(91)
        for _ in range(100):
            rows = Reduced(6)
            for _ in range(6):
                rows.take([chance.choice([0, 0, 1]) for _ in range(6)])
            for pivot, row in rows.rows.items():
                self.assertEqual([other[pivot] != 0 for other in rows.rows.values()].count(True), 1)
                self.assertFalse(any(row[:pivot]))

    def test_columns_behind_are_no_pivots(self):
        rows = Reduced(2)
        self.assertIs(rows.take([0, 0, 5]), False)
        self.assertIs(rows.take([1, 1, 1]), True)
        self.assertIs(rows.take([2, 2, 7]), False)
        self.assertEqual(rows.rows, {0: [1, 1, 1]})

    def test_numbers_stay_small(self):
        """All numbers divide determinants of zeros and ones, which for twelve rows are at most 4,249."""
        chance = random.Random(92)
        for _ in range(60):
            rows = Reduced(12)
            for _ in range(20):
                row = [chance.choice([0, 1]) for _ in range(12)]
                rows.take(row)
                self.assertLessEqual(max(map(abs, sum(rows.rows.values(), []))), 4249)


if __name__ == "__main__":
    unittest.main()
