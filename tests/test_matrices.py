import unittest

from helper import (
    MIRROR, SIZES, Source, invertibles, odd_values, slow_combine, slow_determinant, some_invertible, walk,
)
from itertools import permutations, product
from wittspaces.errors import Refused
from wittspaces.field import Field
from wittspaces.linear import (
    determinant, identity, is_matrix, matrix_inverse, mirrored_rows, moved, times, transposed, unit_row,
)


def matrices(q, n):
    """All matrices of small sizes, otherwise some, with and without an inverse."""
    if q ** (n * n) <= 700:
        return list(product(walk(q, n), repeat=n))
    source = Source(q + 10 * n)
    found = [source.rows(q, n, n) for _ in range(60)] + [some_invertible(source, q, n) for _ in range(60)]
    for rows in found[:30]:
        weights = source.row(q, n - 1)
        found.append((*rows[:-1], slow_combine(q, rows[:-1], weights, n)))
        found.append((slow_combine(q, rows[1:], weights, n), *rows[1:]))
    return found


CASES = [(q, n) for q in SIZES for n in range(4)]


class Products(unittest.TestCase):
    def test_moved_and_times(self):
        source = Source(20)
        for q in SIZES:
            field = Field(q)
            for width, middle, height in product(range(4), repeat=3):
                one = source.rows(q, middle, height)
                two = source.rows(q, width, middle)
                expected = tuple(slow_combine(q, two, v, width) for v in one)
                self.assertEqual(times(field, one, two, width), expected)
                self.assertEqual(times(field, list(one), list(two), width), expected)
                for v, image in zip(one, expected):
                    self.assertEqual(moved(field, v, two, width), image)

    def test_identity(self):
        self.assertEqual(identity(0), ())
        self.assertEqual(identity(3), ((1, 0, 0), (0, 1, 0), (0, 0, 1)))
        for q, n in CASES:
            for m in matrices(q, n)[:40]:
                self.assertEqual(times(Field(q), m, identity(n), n), m)
                self.assertEqual(times(Field(q), identity(n), m, n), m)

    def test_transposed(self):
        self.assertEqual(transposed(((1, 2, 3), (4, 5, 6)), 3), ((1, 4), (2, 5), (3, 6)))
        self.assertEqual(transposed((), 2), ((), ()))
        self.assertEqual(transposed(((), ()), 0), ())
        self.assertEqual(transposed([(1, 2)], 2), ((1,), (2,)))

    def test_mirrored_rows(self):
        source = Source(21)
        for q in SIZES:
            for width in range(4):
                for count in range(4):
                    rows = source.rows(q, width, count)
                    expected = tuple(tuple(MIRROR[q][c] for c in row) for row in rows)
                    self.assertEqual(mirrored_rows(Field(q), rows), expected)
                    self.assertEqual(mirrored_rows(Field(q), list(rows)), expected)


class Inverses(unittest.TestCase):
    def test_determinant(self):
        for q, n in CASES:
            for m in matrices(q, n):
                self.assertEqual(determinant(Field(q), m), slow_determinant(q, m), (q, m))
        self.assertEqual(determinant(Field(7), ()), 1)

    def test_determinant_of_swapped_rows(self):
        for q in SIZES:
            field = Field(q)
            for order, even in (((1, 0, 2), 0), ((1, 2, 0), 1), ((2, 1, 0), 0), ((2, 0, 1), 1)):
                m = tuple(unit_row(3, i) for i in order)
                self.assertEqual(determinant(field, m), 1 if even else field.negative(1))

    def test_determinant_of_all_orders_of_unit_rows(self):
        for order in permutations(range(4)):
            m = tuple(unit_row(4, i) for i in order)
            swaps = sum(order[i] > order[j] for i in range(4) for j in range(i + 1, 4))
            self.assertEqual(determinant(Field(5), m), 1 if swaps % 2 == 0 else 4)

    def test_inverse(self):
        for q, n in CASES:
            field = Field(q)
            for m in matrices(q, n):
                if slow_determinant(q, m) == 0:
                    with self.assertRaises(Refused) as caught:
                        matrix_inverse(field, m)
                    self.assertEqual(caught.exception.reason, "singular")
                    continue
                found = matrix_inverse(field, m)
                self.assertTrue(is_matrix(field, found, n))
                for one, two in ((m, found), (found, m)):
                    self.assertEqual(tuple(slow_combine(q, two, v, n) for v in one), identity(n))
        self.assertEqual(matrix_inverse(Field(2), ()), ())

    def test_larger_sizes(self):
        source = Source(22)
        for q in SIZES:
            for n in (4, 5, 6):
                m = some_invertible(source, q, n)
                self.assertEqual(determinant(Field(q), m), slow_determinant(q, m))
                self.assertEqual(times(Field(q), m, matrix_inverse(Field(q), m), n), identity(n))

    def test_invertible_exactly_if_determinant_is_not_zero(self):
        for q in (2, 3, 4):
            field = Field(q)
            found = [m for m in product(walk(q, 2), repeat=2) if determinant(field, m) != 0]
            self.assertEqual(found, invertibles(q, 2))


class Values(unittest.TestCase):
    def test_is_matrix(self):
        for q, n in CASES:
            field = Field(q)
            for m in matrices(q, n)[:20]:
                self.assertIs(is_matrix(field, m, n), True)
                self.assertIs(is_matrix(field, m, n + 1), False)
                self.assertIs(is_matrix(field, list(m), n), False)
                self.assertIs(is_matrix(field, m + ((0,) * n,), n), False)
                for i in range(n):
                    self.assertIs(is_matrix(field, (*m[:i], list(m[i]), *m[i + 1:]), n), False)
                    self.assertIs(is_matrix(field, (*m[:i], m[i] + (0,), *m[i + 1:]), n), False)
                    for wrong in (q, -1, True, None, "0"):
                        row = (*m[i][:n - 1], wrong)
                        self.assertIs(is_matrix(field, (*m[:i], row, *m[i + 1:]), n), False)

    def test_is_matrix_of_odd_values(self):
        for q, n in CASES:
            for value in odd_values():
                self.assertIs(is_matrix(Field(q), value, n), False, value)
            self.assertIs(is_matrix(Field(q), (), n), n == 0)


if __name__ == "__main__":
    unittest.main()
