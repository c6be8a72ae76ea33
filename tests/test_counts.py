import unittest

from helper import FORMS, Source, disguised, most_dimension, normals, samples, slow_product, slow_value, tables, walk
from wittspaces.build import hyperbolic, zero_space
from wittspaces.counts import singular_count, value_counts
from wittspaces.normal import normal_space
from wittspaces.similar import witt_index
from wittspaces.space import Space


def spaces(seed, most_rows, each=1):
    for kind, q in FORMS:
        source = Source(seed + q)
        for numbers, matrix in samples(source, kind, q, most_dimension(q, most_rows), each):
            yield numbers, Space(kind, q, matrix)


class ValueCounts(unittest.TestCase):
    def test_against_all_rows(self):
        for _, space in spaces(100, 800, 2):
            counts = [0] * space.q
            for x in walk(space.q, space.n):
                counts[slow_value(space.kind, space.q, space.matrix, x)] += 1
            self.assertEqual(value_counts(space), tuple(counts), (space.kind, space.q, space.matrix))

    def test_against_larger_walks(self):
        for kind, q in FORMS:
            n = most_dimension(q, 7000)
            for _, matrix in normals(kind, q, n):
                space = Space(kind, q, disguised(Source(101), kind, q, matrix))
                counts = [0] * q
                for x in space.rows():
                    counts[space.value(x)] += 1
                self.assertEqual(value_counts(space), tuple(counts), (kind, q, matrix))

    def test_six_dimensions(self):
        for kind, q in FORMS:
            for _, matrix in normals(kind, q, 6):
                found = value_counts(Space(kind, q, disguised(Source(102), kind, q, matrix)))
                self.assertTrue(all(type(count) is int and count >= 0 for count in found))
                self.assertEqual((len(found), sum(found)), (q, q ** 6))

    def test_told_counts(self):
        self.assertEqual(value_counts(zero_space("quadratic", 5, 0)), (1, 0, 0, 0, 0))
        self.assertEqual(value_counts(zero_space("hermitian", 4, 2)), (16, 0, 0, 0))
        self.assertEqual(value_counts(hyperbolic("quadratic", 3, 1)), (5, 2, 2))
        self.assertEqual(value_counts(hyperbolic("hermitian", 4, 1)), (10, 6, 0, 0))
        self.assertEqual(value_counts(Space("quadratic", 3, ((2,),))), (1, 0, 2))
        self.assertEqual(value_counts(Space("quadratic", 4, ((3,),))), (1, 1, 1, 1))
        self.assertEqual(value_counts(hyperbolic("alternating", 7, 1)), (49,) + (0,) * 6)


class SingularCounts(unittest.TestCase):
    def check_walked(self, space):
        kind, q, n = space.kind, space.q, space.n
        zeros = {x for x in walk(q, n) if slow_value(kind, q, space.matrix, x) == 0}
        apart = {(x, y): slow_product(kind, q, space.matrix, x, y) for x in zeros for y in zeros} \
            if len(zeros) <= 90 else None
        for k in range(n + 1):
            found = 0
            for table in tables(q, n, k):
                if all(x in zeros for x in table):
                    pairs = [(x, y) for i, x in enumerate(table) for y in table[:i]]
                    found += not any(
                        apart[pair] if apart else slow_product(kind, q, space.matrix, *pair) for pair in pairs
                    )
            self.assertEqual(singular_count(space, k), found, (kind, q, space.matrix, k))
        for k in (n + 1, n + 2, 20, 10 ** 30):
            self.assertEqual(singular_count(space, k), 0)

    def test_against_all_subspaces(self):
        for _, space in spaces(103, 130):
            if space.n <= 4:
                self.check_walked(space)

    def test_against_all_subspaces_of_larger_spaces(self):
        for kind, q, n in (("alternating", 2, 5), ("quadratic", 2, 5), ("alternating", 3, 4), ("quadratic", 3, 4),
                           ("hermitian", 4, 4), ("quadratic", 4, 4), ("quadratic", 5, 3), ("hermitian", 9, 3),
                           ("quadratic", 7, 3), ("quadratic", 9, 3)):
            for _, matrix in normals(kind, q, n):
                self.check_walked(Space(kind, q, disguised(Source(104), kind, q, matrix)))

    def test_told_counts(self):
        """Numbers of points, lines and planes of well known polar spaces."""
        for kind, q, numbers, counts in (
            ("alternating", 2, (4, 0, 0, 0), (1, 15, 15, 0)),
            ("alternating", 2, (6, 0, 0, 0), (1, 63, 315, 135, 0)),
            ("alternating", 3, (4, 0, 0, 0), (1, 40, 40, 0)),
            ("quadratic", 2, (6, 0, 0, 1), (1, 35, 105, 30, 0)),
            ("quadratic", 2, (6, 0, 0, -1), (1, 27, 45, 0, 0)),
            ("quadratic", 3, (5, 0, 0, 1), (1, 40, 40, 0)),
            ("quadratic", 2, (5, 1, 0, 0), (1, 15, 15, 0)),
            ("hermitian", 4, (4, 0, 0, 0), (1, 45, 27, 0)),
            ("hermitian", 4, (5, 0, 0, 0), (1, 165, 297, 0)),
            ("hermitian", 4, (6, 0, 0, 0), (1, 693, 6237, 891, 0)),
        ):
            space = normal_space(kind, q, numbers)
            self.assertEqual(tuple(singular_count(space, k) for k in range(len(counts))), counts)
        self.assertEqual(singular_count(hyperbolic("alternating", 2, 2), 2), 15)

    def test_points_by_values(self):
        """The singular points are told by the number of rows with the value 0."""
        for kind, q in FORMS:
            for n in (5, 6):
                for (_, _, s, _), matrix in normals(kind, q, n):
                    space = Space(kind, q, disguised(Source(105), kind, q, matrix))
                    self.assertEqual(singular_count(space, 1) * (q - 1) + 1, value_counts(space)[0])
                    most = witt_index(space) + s
                    self.assertEqual(singular_count(space, 0), 1)
                    self.assertGreater(singular_count(space, most), 0)
                    self.assertEqual(singular_count(space, most + 1), 0)

    def test_zero_space(self):
        for kind, q in FORMS:
            space = zero_space(kind, q, 3)
            self.assertEqual([singular_count(space, k) for k in range(5)], [1, 1 + q + q * q, 1 + q + q * q, 1, 0])


if __name__ == "__main__":
    unittest.main()
