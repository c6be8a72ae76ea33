import unittest
from fractions import Fraction

from helper import SIZES, invertibles, odd_values, tables
from wittspaces.whole import gauss, invertible_count, is_integer, power


class Whole(unittest.TestCase):
    def test_is_integer(self):
        for value in (0, 1, -1, 9, 10 ** 60, -(10 ** 60)):
            self.assertIs(is_integer(value), True)
        for value in odd_values():
            if not isinstance(value, int) or isinstance(value, bool):
                self.assertIs(is_integer(value), False, value)

    def test_power(self):
        for a in (-3, -1, 0, 1, 2, 7, 10 ** 20):
            expected = 1
            for k in range(41):
                self.assertEqual(power(a, k), expected)
                expected *= a

    def test_gauss_formula(self):
        cases = [(q, n, k) for q in (*SIZES, 8, 10) for n in range(8) for k in range(-1, n + 3)]
        for q, n, k in cases:
            expected = Fraction(1 if 0 <= k <= n else 0)
            for i in range(1, min(k, n) + 1):
                expected *= Fraction(q ** (n - i + 1) - 1, q ** i - 1)
            found = gauss(n, k, q)
            self.assertIs(type(found), int)
            self.assertEqual(found, expected, (n, k, q))

    def test_gauss_far_out(self):
        for k in (-(10 ** 30), -2, 4, 10 ** 30):
            self.assertEqual(gauss(3, k, 5), 0)

    def test_gauss_counts_spaces(self):
        for q in SIZES:
            for n in range(4):
                for k in range(n + 1):
                    self.assertEqual(gauss(n, k, q), len(tables(q, n, k)))

    def test_invertible_count(self):
        for q in SIZES:
            for n in range(7):
                expected = 1
                for i in range(n):
                    expected *= q ** n - q ** i
                self.assertEqual(invertible_count(n, q), expected)
        self.assertEqual(invertible_count(0, 9), 1)

    def test_invertible_count_counts_matrices(self):
        for q, n in [(q, n) for q in SIZES for n in range(3)] + [(2, 3)]:
            self.assertEqual(invertible_count(n, q), len(invertibles(q, n)))


if __name__ == "__main__":
    unittest.main()
