import unittest
from itertools import product

from helper import (
    FORMS, Source, all_matrices, disguised, invertibles, looks_reduced, most_dimension, normals, pulled, samples,
    slow_determinant, slow_product, slow_value, span_set, tables,
)
from wittspaces.build import direct_sum, hyperbolic, zero_space
from wittspaces.linear import is_matrix
from wittspaces.similar import anisotropic_part, find_isometry, greatest_singular, isometric, witt_basis, witt_index
from wittspaces.space import Space

SMALL = [("alternating", q, n) for q in (2, 3, 4) for n in range(3)] + [
    ("alternating", 2, 3), ("quadratic", 2, 0), ("quadratic", 2, 1), ("quadratic", 2, 2), ("quadratic", 2, 3),
    ("quadratic", 3, 1), ("quadratic", 3, 2), ("quadratic", 4, 1), ("quadratic", 4, 2), ("quadratic", 5, 1),
    ("quadratic", 5, 2), ("quadratic", 7, 1), ("quadratic", 9, 1), ("hermitian", 4, 1), ("hermitian", 4, 2),
    ("hermitian", 9, 1),
]


def told(space):
    return space.kind, space.q, space.matrix


class Isometries(unittest.TestCase):
    def check_isometry(self, a, b):
        found = find_isometry(a, b)
        self.assertTrue(is_matrix(a.field, found, a.n))
        self.assertNotEqual(slow_determinant(a.q, found), 0)
        self.assertEqual(pulled(b.kind, b.q, b.matrix, found), a.matrix)

    def check_apart(self, a, b):
        self.assertIs(isometric(a, b), False)
        self.assertIsNone(find_isometry(a, b))

    def test_against_all_matrices(self):
        """For small spaces: isometric are exactly those that some matrix with an inverse carries over."""
        for kind, q, n in SMALL:
            changes = invertibles(q, n)
            every = all_matrices(kind, q, n)
            classes = {}
            for matrix in every:
                if matrix not in classes:
                    for change in changes:
                        classes[pulled(kind, q, matrix, change)] = matrix
            self.assertEqual(set(classes), set(every))
            firsts = sorted(set(classes.values()))
            self.assertEqual(len(firsts), len(normals(kind, q, n)))
            for matrix in every:
                for first in firsts:
                    a, b = Space(kind, q, matrix), Space(kind, q, first)
                    if classes[matrix] == first:
                        self.assertIs(isometric(a, b), True)
                        self.check_isometry(a, b)
                        self.check_isometry(b, a)
                    else:
                        self.check_apart(a, b)
                        self.check_apart(b, a)

    def test_disguised_spaces(self):
        for kind, q in FORMS:
            source = Source(90 + q)
            for n in range(7):
                for _, matrix in normals(kind, q, n):
                    a = Space(kind, q, disguised(source, kind, q, matrix))
                    b = Space(kind, q, disguised(source, kind, q, matrix))
                    self.assertIs(isometric(a, b), True)
                    self.assertIs(isometric(b, a), True)
                    self.check_isometry(a, b)
                    self.check_isometry(b, a)

    def test_unlike_normal_forms(self):
        for kind, q in FORMS:
            source = Source(91 + q)
            for n in range(5):
                found = [(numbers, Space(kind, q, matrix)) for numbers, matrix in samples(source, kind, q, n, 2)]
                for (first, a), (second, b) in product(found[::2], found[1::2]):
                    self.assertIs(isometric(a, b), first == second)
                    self.assertIs(find_isometry(a, b) is None, first != second)

    def test_unlike_kinds_fields_and_dimensions(self):
        every = [zero_space(kind, q, n) for kind, q in FORMS for n in (0, 1, 2)]
        every += [hyperbolic(kind, q, 1) for kind, q in FORMS]
        for a, b in product(every, repeat=2):
            if (a.kind, a.q, a.n) != (b.kind, b.q, b.n):
                self.check_apart(a, b)
            else:
                self.assertIs(isometric(a, b), a == b)
        empty = zero_space("quadratic", 3, 0)
        self.assertEqual(find_isometry(empty, empty), ())


class WittBases(unittest.TestCase):
    def spaces(self, seed, most, each=1):
        for kind, q in FORMS:
            for numbers, matrix in samples(Source(seed + q), kind, q, most, each):
                yield numbers, Space(kind, q, matrix)

    def check_basis(self, space, numbers):
        pairs, rest, zeros = witt_basis(space)
        for part in (pairs, rest, zeros, *pairs):
            self.assertIs(type(part), tuple)
        self.assertTrue(all(len(pair) == 2 for pair in pairs))
        rows = tuple(row for pair in pairs for row in pair) + rest + zeros
        self.assertTrue(all(space.is_row(row) for row in rows))
        self.assertEqual(len(rows), space.n)
        self.assertNotEqual(slow_determinant(space.q, rows), 0)
        self.assertEqual(len(zeros), numbers[2])
        self.check_products(space, rows, len(pairs), len(rest))
        for x in span_set(space.q, rest, space.n):
            self.assertIs(slow_value(*told(space), x) == 0, not any(x), (told(space), rest))
        self.assertLessEqual(len(rest), 2)
        return pairs, rest, zeros

    def check_products(self, space, rows, pairs, left):
        in_rest = range(2 * pairs, 2 * pairs + left)
        for i, x in enumerate(rows):
            if i not in in_rest:
                self.assertEqual(slow_value(*told(space), x), 0)
            for j in range(i + 1, len(rows)):
                if i in in_rest and j in in_rest:
                    continue
                expected = int(i % 2 == 0 and j == i + 1 and j < 2 * pairs)
                self.assertEqual(slow_product(*told(space), x, rows[j]), expected)

    def test_witt_basis_and_index(self):
        for numbers, space in self.spaces(92, 4, 4):
            pairs, _, _ = self.check_basis(space, numbers)
            self.assertEqual(witt_index(space), len(pairs))

    def test_six_dimensions(self):
        for kind, q in FORMS:
            for n in (5, 6):
                for numbers, matrix in normals(kind, q, n):
                    space = Space(kind, q, disguised(Source(93), kind, q, matrix))
                    pairs, _, zeros = self.check_basis(space, numbers)
                    self.assertEqual(witt_index(space), len(pairs))
                    self.check_greatest(space, len(pairs) + len(zeros))

    def test_index_of_told_spaces(self):
        for kind, q in FORMS:
            for m in range(4):
                self.assertEqual(witt_index(hyperbolic(kind, q, m)), m)
                self.assertEqual(witt_index(zero_space(kind, q, m)), 0)
        self.assertEqual(witt_index(hyperbolic("hermitian", 9, 2)), 2)
        self.assertEqual(witt_index(Space("quadratic", 3, ((1, 0), (0, 1)))), 0)
        self.assertEqual(witt_index(Space("quadratic", 5, ((1, 0), (0, 1)))), 1)
        self.assertEqual(witt_index(Space("quadratic", 2, ((1, 1, 0), (0, 1, 0), (0, 0, 1)))), 1)

    def check_greatest(self, space, dimension):
        table = greatest_singular(space)
        self.assertTrue(looks_reduced(table))
        self.assertTrue(all(space.is_row(row) for row in table))
        self.assertEqual(len(table), dimension)
        for i, x in enumerate(table):
            self.assertEqual(slow_value(*told(space), x), 0)
            self.assertFalse(any(slow_product(*told(space), x, y) for y in table[:i]))
        return table

    def test_greatest_singular(self):
        for _, space in self.spaces(94, 4, 2):
            dimension = witt_index(space) + len(space.singular_radical())
            table = self.check_greatest(space, dimension)
            if space.q ** space.n <= 750:
                # No row outside can be added.
                spanned = span_set(space.q, table, space.n)
                for x in space.rows():
                    if x not in spanned and slow_value(*told(space), x) == 0:
                        self.assertTrue(any(slow_product(*told(space), x, y) for y in table))

    def test_greatest_dimension_walked(self):
        for kind, q in FORMS:
            n = most_dimension(q, 130)
            for _, matrix in samples(Source(95), kind, q, min(n, 4)):
                space = Space(kind, q, matrix)
                dimension = len(greatest_singular(space))
                for k in (dimension, dimension + 1):
                    found = any(space.is_singular(table) for table in tables(q, space.n, k))
                    self.assertIs(found, k == dimension)

    def test_anisotropic_part(self):
        for numbers, space in self.spaces(96, 4, 2):
            part = anisotropic_part(space)
            _, rest, _ = witt_basis(space)
            self.assertEqual((part.kind, part.q, part.n), (space.kind, space.q, len(rest)))
            self.assertIn(part.matrix, [matrix for _, matrix in normals(part.kind, part.q, part.n)])
            for x in part.rows():
                self.assertIs(slow_value(*told(part), x) == 0, not any(x))
            whole = part
            for _ in range(witt_index(space)):
                whole = direct_sum(hyperbolic(space.kind, space.q, 1), whole)
            whole = direct_sum(whole, zero_space(space.kind, space.q, numbers[2]))
            self.assertIs(isometric(whole, space), True)

    def test_anisotropic_part_of_told_spaces(self):
        self.assertEqual(str(anisotropic_part(Space("quadratic", 3, ((2, 0), (0, 2))))), "q 3 2: 1 0; 0 1")
        self.assertEqual(str(anisotropic_part(Space("quadratic", 5, ((2, 0), (0, 0))))), "q 5 1: 2")
        self.assertEqual(str(anisotropic_part(hyperbolic("quadratic", 2, 3))), "q 2 0:")
        self.assertEqual(str(anisotropic_part(Space("alternating", 2, [[0]]))), "a 2 0:")
        self.assertEqual(str(anisotropic_part(Space("quadratic", 4, ((3, 0), (0, 0))))), "q 4 1: 1")
        self.assertEqual(str(anisotropic_part(Space("hermitian", 9, ((2,),)))), "h 9 1: 1")


class Cancellation(unittest.TestCase):
    def test_sums(self):
        for kind, q in FORMS:
            source = Source(97 + q)
            parts = [Space(kind, q, matrix) for _, matrix in samples(source, kind, q, 3)]
            for c in parts:
                if c.radical() or c.n == 3:
                    continue
                for a, b in product(parts, repeat=2):
                    if a.n == b.n:
                        same = isometric(direct_sum(a, c), direct_sum(b, c))
                        self.assertIs(same, isometric(a, b), (str(a), str(b), str(c)))

    def test_no_cancellation_with_a_radical(self):
        """With a row of value 1 in the radical of `c`, in characteristic 2, the planes cannot be told apart."""
        for q in (2, 4):
            plane = Space("quadratic", q, dict(normals("quadratic", q, 2))[2, 0, 0, -1])
            other = hyperbolic("quadratic", q, 1)
            c = Space("quadratic", q, ((1,),))
            self.assertIs(isometric(plane, other), False)
            self.assertIs(isometric(direct_sum(plane, c), direct_sum(other, c)), True)


if __name__ == "__main__":
    unittest.main()
