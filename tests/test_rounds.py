"""Rounds, each drawn along by all earlier ones, and equations solved in whole numbers."""

import random
import unittest
from fractions import Fraction

from wholeowners.equations import solved
from wholeowners.rounds import rounds


class Rounds(unittest.TestCase):

    def test_none(self):
        self.assertEqual(rounds(lambda earlier: []), [])

    def test_only_further_ones_are_told(self):
        self.assertEqual(rounds(lambda earlier: ["a", "b"]), [["a", "b"]])
        draws = {"": ["b"], "b": ["b", "c", "d"], "bcd": ["a", "b", "c", "d"], "bcda": ["a", "c"]}
        self.assertEqual(rounds(lambda earlier: draws["".join(earlier)]), [["b"], ["c", "d"], ["a"]])

    def test_what_is_drawn_stays_as_it_was(self):
        drawn = ["a", "b"]
        told = rounds(lambda earlier: drawn)
        told[0].append("c")
        self.assertEqual(drawn, ["a", "b"])


class Equations(unittest.TestCase):

    def test_none(self):
        self.assertEqual(solved([]), ([], 1))

    def test_one_and_two(self):
        self.assertEqual(solved([[3, 6, -1]]), ([[6, -1]], 3))
        # 2x + y = 5 and x + 3y = 10: x = 1, y = 3.
        self.assertEqual(solved([[2, 1, 5], [1, 3, 10]]), ([[5], [15]], 5))

    def test_rows_stay_as_they_were(self):
        rows = [[2, 1, 5], [1, 3, 10]]
        solved(rows)
        self.assertEqual(rows, [[2, 1, 5], [1, 3, 10]])

    def test_chance_rows(self):
        chance = random.Random(22)
        for _ in range(100):
            many = chance.randint(1, 7)
            cases = chance.randint(1, 4)
            rows = [[chance.randint(-99, 99) for _ in range(many + cases)] for _ in range(many)]
            for place, row in enumerate(rows):
                # So heavy a diagonal leaves no turn with a 0 to clear by.
                row[place] = 100 * many + chance.randint(0, 99)
            tops, bottom = solved(rows)
            for row in rows:
                for case in range(cases):
                    come = sum(Fraction(number * tops[place][case], bottom) for place, number in enumerate(row[:many]))
                    self.assertEqual(come, row[many + case])


if __name__ == "__main__":
    unittest.main()
