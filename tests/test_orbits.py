import unittest

from helper import FORMS, Source, most_dimension, slow_combine, slow_moved, table_of, tables, span_set, walk
from maps import (
    all_isometries, drawn_isometry, drawn_spaces, outcome, product_of, spaces_of, units, value,
)
from wittspaces.build import hyperbolic, zero_space
from wittspaces.groups import group_order
from wittspaces.isometry import Isometry
from wittspaces.linear import span
from wittspaces.orbits import carried, carrier, orbit, orbit_count, same_orbit
from wittspaces.polar import singular_subspaces
from wittspaces.similar import greatest_singular
from wittspaces.space import Space

WALKED = {2: 6, 3: 6, 4: 6, 5: 5, 7: 4, 9: 3}


def small_spaces(seed, most_order):
    for space in drawn_spaces(Source(seed), lambda kind, q: 3 if q == 2 else most_dimension(q, 27)):
        if group_order(space) <= most_order:
            yield space


def mark(space, x):
    """What an isometry cannot change, by the words of point 6.5."""
    return any(x), value(space, x), any(product_of(space, x, y) for y in units(space.n))


class Rows(unittest.TestCase):
    def check_carrier(self, space, x, y):
        f = carrier(space, x, y)
        self.assertIs(type(f), Isometry)
        self.assertEqual(f.space, space)
        self.assertEqual(slow_moved(space.q, x, f.matrix, space.n), y)

    def check_apart(self, space, x, y):
        self.assertIs(same_orbit(space, x, y), False)
        self.assertIsNone(carrier(space, x, y))

    def test_against_all_isometries(self):
        for space in small_spaces(200, 700):
            every = all_isometries(space)
            rows = walk(space.q, space.n)
            found = {x: tuple(sorted({slow_moved(space.q, x, matrix, space.n) for matrix in every})) for x in rows}
            self.assertEqual(orbit_count(space), len(set(found.values())))
            for x in rows:
                self.assertEqual(orbit(space, x), found[x])
                for y in rows[::2]:
                    self.assertIs(same_orbit(space, x, y), y in found[x])

    def test_carrier_of_all_rows(self):
        for space in small_spaces(201, 10 ** 9):
            rows = walk(space.q, space.n)
            for x in rows[::3]:
                for y in rows[::2]:
                    if mark(space, x) == mark(space, y):
                        self.check_carrier(space, x, y)
                    else:
                        self.check_apart(space, x, y)

    def test_walked(self):
        for space in drawn_spaces(Source(202), lambda kind, q: most_dimension(q, 800)):
            rows = walk(space.q, space.n)
            marks = {x: mark(space, x) for x in rows}
            self.assertEqual(orbit_count(space), len(set(marks.values())))
            for x in Source(203).rows(space.q, space.n, 2) + ((0,) * space.n,):
                found = orbit(space, x)
                self.assertIs(type(found), tuple)
                self.assertEqual(found, tuple(y for y in rows if marks[y] == marks[x]))

    def test_six_dimensions(self):
        for kind, q in FORMS:
            source = Source(204 + q)
            for space in spaces_of(source, kind, q, 6):
                matrix = drawn_isometry(source, space)
                for x in source.rows(q, 6, 2) + space.radical()[:1]:
                    y = slow_moved(q, x, matrix, 6)
                    self.assertIs(same_orbit(space, x, y), True)
                    self.check_carrier(space, x, y)
                    z = source.row(q, 6)
                    same = mark(space, x) == mark(space, z)
                    self.assertIs(same_orbit(space, x, z), same)
                    self.assertIs(carrier(space, x, z) is None, not same)
                self.check_carrier(space, (0,) * 6, (0,) * 6)
                self.check_apart(space, (0,) * 6, space.unit(0))
                self.check_apart(space, space.unit(5), (0,) * 6)

    def test_radical(self):
        """In characteristic 2: rows of equal values in and out of the radical."""
        for q in (2, 4):
            space = Space("quadratic", q, ((0, 1, 0, 0), (0, 0, 0, 0), (0, 0, 1, 0), (0, 0, 0, 0)))
            self.check_apart(space, (1, 1, 0, 0), (0, 0, 1, 0))
            self.check_apart(space, (0, 0, 1, 0), (1, 0, 1, 0))
            self.check_carrier(space, (1, 1, 0, 0), (1, 0, 1, 1))
            self.check_carrier(space, (0, 0, 1, 0), (0, 0, 1, 1))
            # 0, the other rows of the singular radical, those of the radical by values, the others by values.
            self.assertEqual(orbit_count(space), 1 + q + q)

    def test_told_counts(self):
        self.assertEqual(orbit_count(Space("quadratic", 2, ((0, 1), (0, 0)))), 3)
        self.assertEqual(orbit_count(zero_space("hermitian", 9, 0)), 1)
        self.assertEqual(orbit_count(zero_space("hermitian", 9, 1)), 2)
        self.assertEqual(orbit_count(hyperbolic("alternating", 7, 2)), 2)
        self.assertEqual(orbit_count(hyperbolic("hermitian", 9, 1)), 4)
        self.assertEqual(orbit_count(hyperbolic("quadratic", 5, 2)), 6)
        self.assertEqual(orbit_count(Space("quadratic", 5, ((1,),))), 3)
        self.assertEqual(orbit(Space("quadratic", 5, ((1,),)), (2,)), ((2,), (3,)))
        self.assertEqual(orbit(hyperbolic("quadratic", 2, 1), (1, 0)), ((0, 1), (1, 0)))

    def test_large(self):
        for kind, q in FORMS:
            for n in range(7):
                space = spaces_of(Source(205), kind, q, n)[-1]
                if n > WALKED[q]:
                    self.assertEqual(outcome(orbit, space, space.zero()), "large")
                    self.assertEqual(outcome(orbit, space, space.unit(0)), "large")
                    self.assertEqual(outcome(orbit_count, space), "large")
                    self.assertIs(same_orbit(space, space.zero(), space.zero()), True)
                elif n == WALKED[q]:
                    self.assertEqual(orbit(space, space.zero()), (space.zero(),))
                    self.assertIn(space.unit(0), orbit(space, space.unit(0)))
                    self.assertGreater(orbit_count(space), 1)


class Subspaces(unittest.TestCase):
    def check_carried(self, space, a, b):
        f = carried(space, a, b)
        self.assertIs(type(f), Isometry)
        self.assertEqual(f.space, space)
        images = [slow_moved(space.q, x, f.matrix, space.n) for x in a]
        self.assertEqual(span(space.field, images, space.n), b)

    def test_against_all_isometries(self):
        """Each two subspaces of small spaces."""
        apart = 0
        for space in small_spaces(206, 700):
            q, n = space.q, space.n
            every = [table for k in range(n + 1) for table in tables(q, n, k)]
            matrices = all_isometries(space)
            for a in every[::2]:
                images = [[slow_moved(q, x, matrix, n) for x in a] for matrix in matrices]
                reached = {table_of(q, span_set(q, rows, n), n) for rows in images} if len(a) > 1 else {
                    span(space.field, rows, n) for rows in images
                }
                for b in every:
                    if b in reached:
                        self.check_carried(space, a, b)
                    else:
                        self.assertIsNone(carried(space, a, b))
                        apart += len(a) == len(b)
        self.assertGreater(apart, 100)

    def test_images(self):
        """Drawn subspaces, with and without rows of the radical, and their images."""
        for kind, q in FORMS:
            source = Source(207 + q)
            for n in (2, 4, 5, 6):
                for space in spaces_of(source, kind, q, n):
                    matrix = drawn_isometry(source, space)
                    radical = space.radical()
                    for k in {1, 2, n - 1}:
                        rows = source.rows(q, n, k)
                        if radical and source.below(2):
                            rows += (slow_combine(q, radical, source.row(q, len(radical)), n),)
                        a = span(space.field, rows, n)
                        b = span(space.field, [slow_moved(q, x, matrix, n) for x in a], n)
                        self.check_carried(space, a, b)

    def test_drawn_pairs(self):
        """By what an isometry cannot change, for subspaces of one dimension: the values and products, walked."""
        for space in drawn_spaces(Source(208), lambda kind, q: min(4, most_dimension(q, 90))):
            source = Source(209)
            for _ in range(12):
                k = 1 + source.below(2)
                a, b = [span(space.field, source.rows(space.q, space.n, k), space.n) for _ in range(2)]
                if self.told_of(space, a) == self.told_of(space, b):
                    self.check_carried(space, a, b)
                else:
                    self.assertIsNone(carried(space, a, b))

    def told_of(self, space, table):
        """How many rows have each value and each kind of place, up to what tells a subspace of dimension 2."""
        rows = span_set(space.q, table, space.n)
        found = {}
        for x in rows:
            outside = any(product_of(space, x, y) for y in units(space.n))
            flat = not any(product_of(space, x, y) for y in table)
            key = value(space, x), outside, flat
            found[key] = found.get(key, 0) + 1
        return found

    def test_greatest_singular_spaces(self):
        for space in drawn_spaces(Source(210), lambda kind, q: min(4, most_dimension(q, 260))):
            one = greatest_singular(space)
            if len(one) * 2 > space.n + 2:
                continue
            for other in singular_subspaces(space, len(one))[::9]:
                self.check_carried(space, one, other)

    def test_ends(self):
        for kind, q in FORMS:
            for n in (0, 1, 6):
                for space in spaces_of(Source(211), kind, q, n):
                    self.check_carried(space, (), ())
                    self.check_carried(space, units(n), units(n))
                    radical = space.radical()
                    self.check_carried(space, radical, radical)
                    if n:
                        self.assertIsNone(carried(space, (), units(n)))

    def test_radical_above_the_singular_one(self):
        """In characteristic 2: planes with equal forms, of which one meets the radical, or its rows of value 0."""
        for q in (2, 4):
            rows = ((0, 1, 0, 0, 0), (0, 0, 0, 0, 0), (0, 0, 0, 0, 0), (0, 0, 0, 1, 0), (0, 0, 0, 0, 0))
            space = Space("quadratic", q, rows)
            a, b, c, z, s = units(5)
            self.assertIsNone(carried(space, (z,), ((1, 1, 0, 0, 0),)))
            self.assertIsNone(carried(space, (s,), (a,)))
            self.check_carried(space, (z,), ((0, 0, 0, 1, 1),))
            self.check_carried(space, (a,), (b,))
            self.check_carried(space, (a, z), ((0, 1, 0, 0, 1), (0, 0, 0, 1, 1)))
            self.assertIsNone(carried(space, (a, z), ((1, 0, 0, 1, 0), s)))
            self.check_carried(space, (c, z), (z, s))
            self.check_carried(space, ((1, 0, 0, 1, 0),), ((1, 1, 0, 0, 0),))


if __name__ == "__main__":
    unittest.main()
