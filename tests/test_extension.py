import unittest
from itertools import product

from helper import (
    FORMS, Source, looks_reduced, most_dimension, odd_values, slow_combine, slow_moved, span_set, walk,
)
from maps import (
    all_isometries, are_independent, drawn_isometry, drawn_spaces, odd_rows, outcome, product_of, spaces_of, told,
    units, value,
)
from wittspaces.build import hyperbolic, zero_space
from wittspaces.errors import Malformed, Refused
from wittspaces.extension import barrier, common_with_radical, extends, extension, is_partial
from wittspaces.groups import group_order
from wittspaces.isometry import Isometry
from wittspaces.space import Space

ALL_THREE = (extends, extension, barrier)


def slow_radical(space):
    """The set of the rows whose products with all unit rows are 0."""
    return {
        x for x in walk(space.q, space.n) if not any(product_of(space, x, y) for y in units(space.n))
    }


def agree(space, us, vs):
    """Equal values and products, by the words of point 6.1."""
    many = range(len(us))
    return all(value(space, us[i]) == value(space, vs[i]) for i in many) and all(
        product_of(space, us[i], us[j]) == product_of(space, vs[i], vs[j]) for i in many for j in many if i < j
    )


def slow_partial(space, us, vs):
    q, n = space.q, space.n
    return are_independent(q, us) and are_independent(q, vs) and agree(space, us, vs)


def drawn_of(source, rows, k):
    return tuple(rows[source.below(len(rows))] for _ in range(k))


def in_radical(space, x):
    return not any(product_of(space, x, y) for y in units(space.n))


class Checks(unittest.TestCase):
    def check_extension(self, space, us, vs):
        self.assertIs(extends(space, us, vs), True)
        self.assertIsNone(barrier(space, us, vs))
        f = extension(space, us, vs)
        self.assertIs(type(f), Isometry)
        self.assertEqual(f.space, space)
        for u, v in zip(us, vs):
            self.assertEqual(slow_moved(space.q, u, f.matrix, space.n), v)

    def check_barrier(self, space, us, vs):
        self.assertIs(extends(space, us, vs), False)
        self.assertIsNone(extension(space, us, vs))
        weights = barrier(space, us, vs)
        self.assertIs(type(weights), tuple)
        self.assertEqual(len(weights), len(us))
        self.assertTrue(all(type(c) is int and 0 <= c < space.q for c in weights))
        u = slow_combine(space.q, us, weights, space.n)
        v = slow_combine(space.q, vs, weights, space.n)
        self.assertIsNot(in_radical(space, u), in_radical(space, v))


class Partial(Checks):
    def test_drawn_rows(self):
        found = {True: 0, False: 0}
        for space in drawn_spaces(Source(180), lambda kind, q: most_dimension(q, 30)):
            source = Source(181)
            for _ in range(30):
                k = source.below(min(space.n, 3) + 1)
                us, vs = source.rows(space.q, space.n, k), source.rows(space.q, space.n, k)
                right = slow_partial(space, us, vs)
                self.assertIs(is_partial(space, us, vs), right)
                self.assertIs(is_partial(space, list(us), vs), right)
                self.assertIs(is_partial(space, us, list(vs)), right)
                found[right] += 1
        self.assertGreater(min(found.values()), 100)

    def test_images(self):
        for space in drawn_spaces(Source(182), lambda kind, q: 6):
            source = Source(183)
            matrix = drawn_isometry(source, space)
            for k in (0, 1, space.n // 2, space.n):
                us = source.rows(space.q, space.n, k)
                vs = tuple(slow_moved(space.q, u, matrix, space.n) for u in us)
                right = are_independent(space.q, us)
                self.assertIs(is_partial(space, us, vs), right)
                if right and k:
                    self.assertIs(is_partial(space, us, vs[:-1]), False)
                    self.assertIs(is_partial(space, us[1:], vs), False)
                    self.assertIs(is_partial(space, us + us[:1], vs + vs[:1]), False)
                    spoilt = vs[:-1] + (source.row(space.q, space.n),)
                    self.assertIs(is_partial(space, us, spoilt), slow_partial(space, us, spoilt))

    def test_products_alone(self):
        """Rows of equal values with unlike products, and rows of equal products with unlike values."""
        for q in (2, 3, 4, 5, 7, 9):
            space = hyperbolic("quadratic", q, 2)
            a, b, c, _ = units(4)
            self.assertIs(is_partial(space, (a, b), (a, c)), False)
            self.assertIs(is_partial(space, (a,), ((1, 1, 0, 0),)), False)
            self.assertIs(is_partial(space, (a, c), (c, a)), True)
            space = hyperbolic("alternating", q, 1)
            self.assertIs(is_partial(space, ((1, 0), (0, 1)), ((0, 1), (1, 0))), q in (2, 4))

    def test_odd_values(self):
        for kind, q in FORMS:
            for n in range(3):
                space = zero_space(kind, q, n)
                rows = units(n)
                values = odd_values() + [space, rows + ((0,) * (n + 1),)] + [(x,) for x in odd_rows(q, n)]
                values += [[x] for x in odd_rows(q, n)] + [{}, {0: rows}]
                for one in values:
                    for other in (rows, (), one):
                        if not_rows(space, one):
                            self.assertIs(is_partial(space, one, other), False)
                            self.assertIs(is_partial(space, other, one), False)
                            for function in ALL_THREE:
                                self.assertEqual(outcome(function, space, one, other), "malformed")
                                self.assertEqual(outcome(function, space, other, one), "malformed")


def not_rows(space, value):
    """True for all values but lists and tuples of rows."""
    if type(value) not in (list, tuple):
        return True
    return not all(
        type(row) is tuple and len(row) == space.n and all(type(c) is int and 0 <= c < space.q for c in row)
        for row in value
    )


class Errors(unittest.TestCase):
    def check_all(self, expected, space, us, vs):
        for one, other in ((us, vs), (vs, us), (list(us), vs), (us, list(vs))):
            for function in ALL_THREE:
                self.assertEqual(outcome(function, space, one, other), expected)
            self.assertIs(is_partial(space, one, other), expected is None)

    def test_order(self):
        for kind, q in FORMS:
            space = hyperbolic(kind, q, 2)
            a, b, c, d = units(4)
            zero = (0,) * 4
            wrong = (0, 0, 0, q)
            # Malformed ahead of dependent rows, and these ahead of unlike products.
            self.check_all("malformed", space, (zero,), (wrong,))
            self.check_all("malformed", space, (zero, zero), (zero,))
            self.check_all("malformed", space, (a, b), (a,))
            self.check_all("malformed", space, (a, a, b), (a, wrong, b))
            self.check_all("malformed", space, (), (a,))
            self.check_all("dependent", space, (zero,), (a,))
            self.check_all("dependent", space, (a, a), (a, b))
            self.check_all("dependent", space, (a, b, (1, 1, 0, 0)), (c, a, d))
            self.check_all("dependent", space, (a, b, c, d, a), (a, b, c, d, b))
            self.check_all("dependent", space, (a,) * 9, (b,) * 9)
            self.check_all("partial", space, (a, b), (a, c))
            self.check_all("partial", space, (a, c, b), (a, c, d))
            self.check_all(None, space, (a, c), (c, a))
            self.check_all(None, space, (), ())
            if kind == "quadratic" or (kind, q) == ("hermitian", 9):
                self.check_all("partial", space, (a,), ((1, 1, 0, 0),))

    def test_malformed_rows(self):
        for kind, q in FORMS:
            space = hyperbolic(kind, q, 1)
            for row in odd_rows(q, 2):
                for function in ALL_THREE:
                    self.assertEqual(outcome(function, space, ((1, 0), (1, 0)), ((1, 0), row)), "malformed")
                    self.assertEqual(outcome(function, space, [row], [(1, 0)]), "malformed")

    def test_kinds_of_errors(self):
        space = hyperbolic("alternating", 2, 1)
        with self.assertRaises(Malformed):
            extension(space, None, ())
        with self.assertRaises(Refused):
            barrier(space, ((0, 0),), ((0, 0),))


class CommonPart(unittest.TestCase):
    def test_walked(self):
        for space in drawn_spaces(Source(184), lambda kind, q: most_dimension(q, 260)):
            q, n = space.q, space.n
            source = Source(185)
            radical = slow_radical(space)
            for k in range(n + 2):
                rows = source.rows(q, n, k)
                if k and len(radical) > 1:
                    rows = rows[1:] + (sorted(radical)[source.below(len(radical))],)
                found = common_with_radical(space, rows)
                self.assertTrue(looks_reduced(found))
                self.assertEqual(span_set(q, found, n), span_set(q, rows, n) & radical)
                self.assertEqual(common_with_radical(space, list(rows)), found)


class Extensions(Checks):
    def test_images_of_drawn_rows(self):
        for space in drawn_spaces(Source(186), lambda kind, q: 6):
            source = Source(187)
            matrix = drawn_isometry(source, space)
            radical = space.radical()
            for k in sorted({0, 1, space.n // 2, space.n}):
                us = source.rows(space.q, space.n, k)
                if radical and k and source.below(2):
                    us = (slow_combine(space.q, radical, source.row(space.q, len(radical)), space.n),) + us[1:]
                if are_independent(space.q, us):
                    vs = tuple(slow_moved(space.q, u, matrix, space.n) for u in us)
                    self.check_extension(space, us, vs)
        self.check_extension(hyperbolic("quadratic", 3, 1), [(1, 0)], ((0, 1),))
        self.check_extension(hyperbolic("quadratic", 3, 1), ((1, 0),), [(0, 1)])

    def test_without_rows(self):
        for kind, q in FORMS:
            for n in range(7):
                for space in spaces_of(Source(188), kind, q, n)[::2]:
                    self.check_extension(space, (), [])

    def test_against_all_isometries(self):
        """For small spaces: there is an extension exactly if one of all isometries is one."""
        found = {True: 0, False: 0}
        for space in drawn_spaces(Source(189), lambda kind, q: 3 if q == 2 else most_dimension(q, 27)):
            q, n = space.q, space.n
            if group_order(space) > 500:
                continue
            source = Source(190)
            every = all_isometries(space)
            # Rows of the radical stand here twice, so that more of them are drawn.
            rows = walk(q, n) + sorted(slow_radical(space))
            for k in (1, 1, 1, 1, 2, 2, 2, 3):
                us = drawn_of(source, rows, k)
                if not are_independent(q, us):
                    continue
                images = {tuple(slow_moved(q, u, matrix, n) for u in us) for matrix in every}
                others = product(rows, repeat=k) if q ** (n * k) <= 100 else [
                    drawn_of(source, rows, k) for _ in range(60)
                ]
                for vs in [*others, *sorted(images)[::7]]:
                    if slow_partial(space, us, vs):
                        right = vs in images
                        (self.check_extension if right else self.check_barrier)(space, us, vs)
                        found[right] += 1
        self.assertGreater(min(found.values()), 50, found)

    def test_in_and_out_of_the_radical(self):
        """Drawn rows with equal values and products, whose spans meet the radical alike or not."""
        found = {True: 0, False: 0}
        for space in drawn_spaces(Source(191), lambda kind, q: min(4, most_dimension(q, 260))):
            source = Source(192)
            q, n = space.q, space.n
            radical = slow_radical(space)
            if len(radical) in (1, q ** n):
                continue
            rows = sorted(radical) + walk(q, n)
            for _ in range(60):
                k = 1 + source.below(2)
                us, vs = drawn_of(source, rows, k), drawn_of(source, rows, k)
                if slow_partial(space, us, vs):
                    sums = [
                        (slow_combine(q, us, weights, n), slow_combine(q, vs, weights, n)) for weights in walk(q, k)
                    ]
                    right = all((u in radical) is (v in radical) for u, v in sums)
                    (self.check_extension if right else self.check_barrier)(space, us, vs)
                    found[right] += 1
        self.assertGreater(min(found.values()), 100)

    def test_barriers_of_larger_spaces(self):
        """A row of the singular radical cannot go to one of value 0 outside the radical, nor one back."""
        for kind, q in FORMS:
            for numbers_of_planes in (1, 2):
                plane = hyperbolic(kind, q, numbers_of_planes)
                n = plane.n + 2
                space = Space(kind, q, tuple((*row, 0, 0) for row in plane.matrix) + ((0,) * n,) * 2)
                unit = units(n)
                a, r, s = unit[0], unit[n - 2], unit[n - 1]
                self.check_barrier(space, (a,), (r,))
                self.check_barrier(space, (r,), (a,))
                self.check_barrier(space, (a, r), (r, s))
                self.check_barrier(space, [r, s], [a, s])
                self.check_barrier(space, (r, a), (a, r))
                self.check_extension(space, (a, r), (slow_combine(q, (a, s), (1, 1), n), s))
                if numbers_of_planes == 2:
                    self.check_extension(space, (a, unit[2], r), (unit[3], unit[0], s))

    def test_radical_above_the_singular_one(self):
        """In characteristic 2, with rows of the radical whose values are not 0, in drawn bases."""
        for q in (2, 4):
            for n in range(1, 7):
                for space in spaces_of(Source(193), "quadratic", q, n):
                    tops = [row for row in space.radical() if value(space, row) != 0]
                    if not tops or space.n == len(space.radical()):
                        continue
                    z = tops[0]
                    source = Source(194)
                    for _ in range(6):
                        x = source.row(q, n)
                        if value(space, x) == value(space, z) and any(x):
                            same = in_radical(space, x)
                            (self.check_extension if same else self.check_barrier)(space, (x,), (z,))
                    matrix = drawn_isometry(source, space)
                    us = (source.row(q, n), z)
                    if are_independent(q, us):
                        vs = tuple(slow_moved(q, u, matrix, n) for u in us)
                        self.assertTrue(in_radical(space, vs[1]))
                        self.check_extension(space, us, vs)
                        self.check_extension(space, us[1:], vs[1:])

    def test_told(self):
        space = Space("alternating", 2, ((0, 1, 0), (1, 0, 0), (0, 0, 0)))
        self.assertIs(extends(space, ((1, 0, 0),), ((0, 1, 1),)), True)
        self.assertEqual(barrier(space, ((1, 0, 0),), ((0, 0, 1),)), (1,))
        self.assertIsNone(extension(space, ((1, 0, 0),), ((0, 0, 1),)))
        self.assertEqual(told(extension(space, (), ()).space), told(space))
        plane = hyperbolic("quadratic", 5, 1)
        self.assertEqual(extension(plane, ((1, 0),), ((0, 2),)).matrix, ((0, 2), (3, 0)))
        self.assertEqual(extension(plane, units(2), ((3, 0), (0, 2))).matrix, ((3, 0), (0, 2)))


if __name__ == "__main__":
    unittest.main()
