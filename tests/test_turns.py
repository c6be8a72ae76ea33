import unittest

from helper import (
    FORMS, MINUS, PLUS, SIZES, Source, TIMES, odd_values, slow_add, slow_determinant, slow_scaled,
)
from maps import (
    all_isometries, along, drawn_isometry, drawn_spaces, inverse_of, odd_rows, outcome, product_of, rank, spaces_of,
    times, units, value,
)
from wittspaces.build import hyperbolic, zero_space
from wittspaces.groups import group_order
from wittspaces.isometry import Isometry
from wittspaces.kinds import reflection, siegel
from wittspaces.normal import pairs_basis
from wittspaces.pairing import swaps
from wittspaces.space import Space
from wittspaces.turns import (
    dickson, product_of_reflections, product_of_transvections, reflections_of, spinor_norm, transvections_of,
)

ODD = [("quadratic", q) for q in (3, 5, 7, 9)]
QUADRATIC = [("quadratic", q) for q in SIZES]
ALTERNATING = [("alternating", q) for q in SIZES]


def without_radical(seed, forms, most=6, each=1):
    for space in drawn_spaces(Source(seed), lambda kind, q: most, forms, each):
        if not space.radical():
            yield space


def small_groups(forms, most):
    """All isometries of small spaces without radical."""
    for kind, q in forms:
        for n in range(5):
            if q ** n > 130:
                break
            for space in spaces_of(Source(270), kind, q, n):
                if not space.radical() and group_order(space) <= most:
                    yield space, [Isometry(space, matrix) for matrix in all_isometries(space)]


def is_square(q, c):
    return c in [TIMES[q][x][x] for x in range(q)]


def slow_reflections(space, rows):
    """The matrix of the product of the reflections, by their formula."""
    matrix = units(space.n)
    for u in rows:
        step = along(space, u, MINUS[space.q][inverse_of(space.q, value(space, u))])
        matrix = times(space.q, matrix, step, space.n)
    return matrix


def slow_transvections(space, pairs):
    matrix = units(space.n)
    for c, u in pairs:
        matrix = times(space.q, matrix, along(space, u, c), space.n)
    return matrix


def residual_dimension(f):
    q, n = f.space.q, f.space.n
    return rank(q, [slow_add(q, x, slow_scaled(q, y, MINUS[q][1])) for x, y in zip(f.matrix, units(n))])


def dickson_by_pairs(f):
    """By the formula of point 8.3 for even q."""
    space, q = f.space, f.space.q
    pairs = pairs_basis(space)[0]
    total = 0
    for x, y in pairs:
        first, second = f(x), f(y)
        for other_x, other_y in pairs:
            # With b(x_j, y_j) = 1 the multiple of x_j is the product with y_j.
            a, b = product_of(space, first, other_y), product_of(space, first, other_x)
            c, d = product_of(space, second, other_y), product_of(space, second, other_x)
            total = PLUS[q][total][TIMES[q][TIMES[q][a][c]][value(space, other_x)]]
            total = PLUS[q][total][TIMES[q][TIMES[q][b][d]][value(space, other_y)]]
            total = PLUS[q][total][TIMES[q][b][c]]
    return total


def drawn_rows(source, space, k):
    """Up to k drawn rows with values other than 0."""
    return tuple(u for u in source.rows(space.q, space.n, k) if value(space, u) != 0)


class Reflections(unittest.TestCase):
    def check_reflections(self, f):
        rows = reflections_of(f)
        self.assertIs(type(rows), tuple)
        self.assertTrue(all(f.space.is_row(u) and value(f.space, u) != 0 for u in rows))
        self.assertEqual(slow_reflections(f.space, rows), f.matrix)
        return rows

    def test_drawn_isometries(self):
        for space in without_radical(271, ODD, each=2):
            source = Source(272)
            self.check_reflections(Isometry(space, drawn_isometry(source, space, 6)))
            rows = drawn_rows(source, space, 5)
            self.check_reflections(Isometry(space, slow_reflections(space, rows)))
            self.check_reflections(Isometry(space, units(space.n)))
            minus = tuple(slow_scaled(space.q, x, MINUS[space.q][1]) for x in units(space.n))
            self.check_reflections(Isometry(space, minus))

    def test_siegel_maps(self):
        """Maps that move no row by a row of value other than 0."""
        for q in (3, 5, 7, 9):
            space = hyperbolic("quadratic", q, 3)
            for w in ((0, 0, 1, 0, 0, 0), (0, 0, 0, 2, 1, 0), (0, 0, 1, 1, 0, 0)):
                f = siegel(space, (1, 0, 0, 0, 0, 0), w)
                self.check_reflections(f)
                self.assertEqual(dickson(f), 0)

    def test_all_of_small_spaces(self):
        for _, every in small_groups(ODD, 400):
            for f in every:
                self.check_reflections(f)

    def test_empty_products(self):
        for q in (3, 5, 7, 9):
            f = Isometry(zero_space("quadratic", q, 0), ())
            self.assertEqual(reflections_of(f), ())
            self.assertEqual((dickson(f), spinor_norm(f)), (0, 1))


class Transvections(unittest.TestCase):
    def check_transvections(self, f):
        pairs = transvections_of(f)
        self.assertIs(type(pairs), tuple)
        for pair in pairs:
            self.assertTrue(type(pair) is tuple and len(pair) == 2)
            c, u = pair
            self.assertTrue(f.space.field.is_number(c) and c != 0)
            self.assertTrue(f.space.is_row(u) and any(u))
        self.assertEqual(slow_transvections(f.space, pairs), f.matrix)

    def test_drawn_isometries(self):
        for space in without_radical(273, ALTERNATING, each=4):
            source = Source(274)
            for steps in (0, 1, 2, 9):
                self.check_transvections(Isometry(space, drawn_isometry(source, space, steps)))

    def test_all_of_small_spaces(self):
        for _, every in small_groups(ALTERNATING, 800):
            for f in every:
                self.check_transvections(f)

    def test_rows_that_go_to_multiples(self):
        """No transvection takes a row to a multiple of it; one row between is needed."""
        for q in (3, 4, 5, 7, 9):
            for m in (1, 2, 3):
                space = hyperbolic("alternating", q, m)
                matrix = [list(row) for row in units(2 * m)]
                for i in range(m):
                    matrix[2 * i][2 * i], matrix[2 * i + 1][2 * i + 1] = 2, inverse_of(q, 2)
                self.check_transvections(Isometry(space, tuple(map(tuple, matrix))))
                minus = tuple(slow_scaled(q, x, MINUS[q][1]) for x in units(2 * m))
                self.check_transvections(Isometry(space, minus))
                # Planes that are exchanged.
                turned = units(2 * m)[2:] + units(2 * m)[:2]
                self.check_transvections(Isometry(space, turned))


class Dickson(unittest.TestCase):
    def check_dickson(self, f):
        found = dickson(f)
        self.assertIs(type(found), int)
        self.assertEqual(found, residual_dimension(f) % 2)
        q = f.space.q
        if q % 2 == 1:
            self.assertEqual(found, int(slow_determinant(q, f.matrix) != 1))
        else:
            self.assertEqual(found, dickson_by_pairs(f))
        if f.space.n % 2 == 0 and f.space.n < 6:
            self.assertEqual(found, swaps(f.space, f.matrix))
        return found

    def test_drawn_isometries(self):
        seen = set()
        for space in without_radical(275, QUADRATIC, each=2):
            source = Source(276)
            for steps in (1, 2, 3, 6):
                f = Isometry(space, drawn_isometry(source, space, steps))
                g = Isometry(space, drawn_isometry(source, space, 1))
                total = (self.check_dickson(f) + self.check_dickson(g)) % 2
                self.assertEqual(self.check_dickson(f.then(g)), total)
                seen.add((space.q, space.n, dickson(f)))
            for u in drawn_rows(source, space, 3):
                self.assertEqual(self.check_dickson(reflection(space, u)), 1)
        for q in SIZES:
            for n in (2, 4, 6):
                self.assertLess({(q, n, 0), (q, n, 1)}, seen)

    def test_all_of_small_spaces(self):
        for _, every in small_groups(QUADRATIC, 150):
            for f in every:
                self.check_dickson(f)

    def test_exchanged_planes(self):
        """With q = 2 this is no product of reflections; its invariant is 0 all the same."""
        for q in (2, 4):
            space = hyperbolic("quadratic", q, 2)
            f = Isometry(space, ((0, 0, 1, 0), (0, 0, 0, 1), (1, 0, 0, 0), (0, 1, 0, 0)))
            self.assertEqual(self.check_dickson(f), 0)


class SpinorNorm(unittest.TestCase):
    def test_of_drawn_reflections(self):
        seen = set()
        for space in without_radical(277, ODD, each=2):
            source = Source(278)
            for k in (0, 1, 2, 3, 5):
                rows = drawn_rows(source, space, k)
                f = Isometry(space, slow_reflections(space, rows))
                total = 1
                for u in rows:
                    total = TIMES[space.q][total][value(space, u)]
                self.assertEqual(spinor_norm(f), 1 if is_square(space.q, total) else -1)
                seen.add((space.q, spinor_norm(f), dickson(f)))
        self.assertEqual(seen, {(q, one, two) for q in (3, 5, 7, 9) for one in (1, -1) for two in (0, 1)})

    def test_products(self):
        for space in without_radical(279, ODD, 4, 2):
            source = Source(280)
            f = Isometry(space, drawn_isometry(source, space, 3))
            g = Isometry(space, drawn_isometry(source, space, 2))
            self.assertEqual(spinor_norm(f.then(g)), spinor_norm(f) * spinor_norm(g))
            self.assertEqual(spinor_norm(f.inverse()), spinor_norm(f))

    def test_told(self):
        f = reflection(Space("quadratic", 3, ((1, 0), (0, 1))), (1, 1))
        self.assertEqual((dickson(f), spinor_norm(f)), (1, -1))


class Products(unittest.TestCase):
    def test_reflections_with_any_radical(self):
        for space in drawn_spaces(Source(281), lambda kind, q: 6, QUADRATIC):
            rows = drawn_rows(Source(282), space, 4)
            f = product_of_reflections(space, rows)
            self.assertIs(type(f), Isometry)
            self.assertEqual((f.space, f.matrix), (space, slow_reflections(space, rows)))
            self.assertEqual(product_of_reflections(space, ()).matrix, units(space.n))

    def test_transvections_with_any_radical(self):
        for space in drawn_spaces(Source(283), lambda kind, q: 6, ALTERNATING):
            source = Source(284)
            pairs = tuple((source.below(space.q), source.row(space.q, space.n)) for _ in range(4))
            f = product_of_transvections(space, pairs)
            self.assertIs(type(f), Isometry)
            self.assertEqual((f.space, f.matrix), (space, slow_transvections(space, pairs)))
            self.assertEqual(product_of_transvections(space, ()).matrix, units(space.n))

    def test_told_order(self):
        """The first item is done first."""
        space = hyperbolic("quadratic", 5, 1)
        f = product_of_reflections(space, ((1, 1), (1, 2)))
        self.assertEqual(f, reflection(space, (1, 1)).then(reflection(space, (1, 2))))
        self.assertNotEqual(f.matrix, product_of_reflections(space, ((1, 2), (1, 1))).matrix)
        plane = hyperbolic("alternating", 3, 1)
        f = product_of_transvections(plane, ((1, (1, 0)), (1, (0, 1))))
        self.assertEqual(f.matrix, slow_transvections(plane, ((1, (1, 0)), (1, (0, 1)))))
        self.assertNotEqual(f.matrix, slow_transvections(plane, ((1, (0, 1)), (1, (1, 0)))))

    def test_errors_item_by_item(self):
        for _, q in QUADRATIC:
            space = hyperbolic("quadratic", q, 1)
            good, zero = (1, 1), (1, 0)
            self.assertEqual(outcome(product_of_reflections, space, (good, zero, None)), "isometry")
            self.assertEqual(outcome(product_of_reflections, space, (good, None, zero)), "malformed")
            self.assertEqual(outcome(product_of_reflections, space, (zero,)), "isometry")
            for row in odd_rows(q, 2):
                self.assertEqual(outcome(product_of_reflections, space, (good, row)), "malformed")
            space = hyperbolic("alternating", q, 1)
            for row in odd_rows(q, 2):
                self.assertEqual(outcome(product_of_transvections, space, ((1, good), (1, row))), "malformed")
            for c in odd_values() + [q, -1]:
                self.assertEqual(outcome(product_of_transvections, space, ((1, good), (c, good))), "malformed")
            for item in odd_values() + [(1, good, good), (good, 1), [1, good], (1,), good]:
                self.assertEqual(outcome(product_of_transvections, space, ((1, good), item)), "malformed", item)

    def test_kind_comes_for_every_tuple(self):
        for kind, q in FORMS:
            for n in (0, 1, 2):
                for space in spaces_of(Source(285), kind, q, n):
                    for items in ((), (None,), (space.zero(),), ((1, space.zero()),)):
                        if kind != "quadratic":
                            self.assertEqual(outcome(product_of_reflections, space, items), "kind")
                        if kind != "alternating":
                            self.assertEqual(outcome(product_of_transvections, space, items), "kind")


class Errors(unittest.TestCase):
    def test_order(self):
        for kind, q in FORMS:
            for n in range(7):
                for space in (*spaces_of(Source(286), kind, q, n), zero_space(kind, q, n)):
                    f = Isometry(space, units(n))
                    radical = "radical" if space.radical() else None
                    odd = "kind" if kind != "quadratic" else "two" if q in (2, 4) else radical
                    self.assertEqual(outcome(reflections_of, f), odd)
                    self.assertEqual(outcome(spinor_norm, f), odd)
                    self.assertEqual(outcome(dickson, f), "kind" if kind != "quadratic" else radical)
                    self.assertEqual(outcome(transvections_of, f), "kind" if kind != "alternating" else radical)


if __name__ == "__main__":
    unittest.main()
