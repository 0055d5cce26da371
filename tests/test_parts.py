"""Edges that calls can't reach by themselves, at the functions that keep them."""

import unittest
from math import gcd

from measuredtables.elimination import determinant, reduced_form
from measuredtables.matrices import Matrix, settled
from measuredtables.ratios import common_divisor, lowest
from measuredtables.wholes import row_over


def measure(power):
    return [0, power, 0, 0, 0, 0, 0, 0]


class Settled(unittest.TestCase):
    def test_columns_at_999(self):
        for power, fits in [(999, True), (-999, True), (1000, False), (-1000, False)]:
            matrix = Matrix([measure(0)], [measure(0), measure(power)], [[(1, 1), (1, 1)]])
            self.assertEqual(settled(matrix) is not None, fits, power)

    def test_rows_at_999(self):
        for power, fits in [(999, True), (-999, True), (1000, False), (-1000, False)]:
            matrix = Matrix([measure(0), measure(power)], [measure(0)], [[(1, 1)], [(1, 1)]])
            self.assertEqual(settled(matrix) is not None, fits, power)


class Lowest(unittest.TestCase):
    def test_slowest_fractions(self):
        for digits in range(1, 201):
            before, number = 1, 1
            while before + number < 10 ** digits:
                before, number = number, before + number
            for factor in [1, 10 ** 500]:
                self.assertEqual(lowest(number * factor, before * factor, digits), (number, before))
                self.assertEqual(lowest(-before * factor, number * factor, digits), (-before, number))
                self.assertIsNone(lowest(before + number, number, digits))
                self.assertIsNone(lowest(number, before + number, digits))

    def test_zero(self):
        self.assertEqual(lowest(0, 7, 40), (0, 1))
        self.assertEqual(lowest(0, 10 ** 999, 1), (0, 1))

    def test_bounds(self):
        self.assertEqual(lowest(99, 1, 2), (99, 1))
        self.assertIsNone(lowest(100, 1, 2))
        self.assertIsNone(lowest(-100, 1, 2))
        self.assertIsNone(lowest(1, 100, 2))
        self.assertEqual(lowest(100, 200, 2), (1, 2))

    def test_divisors(self):
        for x in range(1, 60):
            for y in range(1, 60):
                self.assertEqual(common_divisor(x, y, 2), gcd(x, y))

    def test_large_by_small(self):
        self.assertEqual(common_divisor(3 ** 2000, 3 ** 400, 200), 3 ** 400)
        self.assertEqual(common_divisor(7 ** 2000 * 6, 3 ** 400, 200), 3)


class Denominators(unittest.TestCase):
    def test_above_zero(self):
        self.assertEqual(row_over([1, -2, 0], 3), [(1, 3), (-2, 3), (0, 3)])
        self.assertEqual(row_over([1, -2, 0], -3), [(-1, 3), (2, 3), (0, 3)])

    def test_above_zero_in_reduced_forms(self):
        reduced = reduced_form([[(0, 1), (2, 3), (1, 1)], [(5, 1), (1, 7), (0, 1)]])
        self.assertTrue(all(bottom > 0 for row in reduced.entries for top, bottom in row))


class Determinant(unittest.TestCase):
    def test_no_rows(self):
        self.assertEqual(determinant([]), 1)

    def test_rows_are_not_changed(self):
        rows = [[0, 2, 1], [3, 4, 0], [5, 6, 7]]
        self.assertEqual(determinant(rows), -44)
        self.assertEqual(rows, [[0, 2, 1], [3, 4, 0], [5, 6, 7]])


if __name__ == "__main__":
    unittest.main()
