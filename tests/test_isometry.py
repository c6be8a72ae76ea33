import unittest
from itertools import product

from helper import (
    FORMS, MINUS, Source, invertibles, looks_reduced, most_dimension, odd_values, slow_add, slow_combine,
    slow_determinant, slow_moved, slow_scaled, span_set, walk,
)
from maps import (
    all_isometries, drawn_isometry, drawn_spaces, keeps, odd_matrices, odd_rows, outcome, product_of, spaces_of, times,
    told, units, value,
)
from wittspaces.build import hyperbolic, zero_space
from wittspaces.errors import Refused
from wittspaces.isometry import Isometry, is_isometry
from wittspaces.linear import holds
from wittspaces.space import Space

# So few matrices of the size that all are walked.
FEW = {2: 3, 3: 2, 4: 2, 5: 2, 7: 1, 9: 1}

# The images of the last unit row under maps that take each unit row to the next one and go round all rows but 0.
ROUNDS = {
    (2, 6): (1, 0, 0, 0, 0, 1), (3, 2): (1, 1), (3, 4): (1, 0, 0, 1), (3, 5): (2, 0, 0, 0, 1),
    (3, 6): (1, 0, 0, 0, 0, 1), (4, 3): (2, 1, 1), (4, 5): (2, 0, 0, 0, 1), (4, 6): (2, 0, 0, 0, 1, 3),
    (5, 2): (2, 2), (5, 3): (2, 0, 1), (5, 4): (2, 0, 2, 1), (5, 6): (2, 1, 3, 2, 0, 2), (7, 3): (3, 0, 1),
    (7, 4): (2, 0, 1, 1), (9, 3): (4, 0, 4), (9, 4): (7, 8, 3, 5), (9, 6): (5, 2, 4, 7, 0, 6),
}


def drawn(seed, most_rows, most=6):
    """Pairs of a space and an isometry of it."""
    source = Source(seed)
    for space in drawn_spaces(source, lambda kind, q: min(most, most_dimension(q, most_rows))):
        yield space, Isometry(space, drawn_isometry(source, space))


class Recognized(unittest.TestCase):
    def test_all_matrices(self):
        """By the definition, over all rows, for all matrices of the size."""
        for space in drawn_spaces(Source(130), lambda kind, q: FEW[q]):
            q, n = space.q, space.n
            rows = walk(q, n)
            values = {x: value(space, x) for x in rows}
            products = {(x, y): product_of(space, x, y) for x in rows for y in rows}
            for matrix in product(rows, repeat=n) if n < 3 else invertibles(q, n):
                images = {x: slow_moved(q, x, matrix, n) for x in rows}
                right = len(set(images.values())) == len(rows) and all(
                    values[images[x]] == values[x] for x in rows
                ) and all(products[images[x], images[y]] == products[x, y] for x in rows for y in rows)
                self.assertIs(is_isometry(space, matrix), right, (told(space), matrix))

    def test_drawn_isometries(self):
        source = Source(131)
        for space in drawn_spaces(source, lambda kind, q: 6):
            matrix = drawn_isometry(source, space)
            self.assertIs(is_isometry(space, matrix), True)
            self.assertEqual(Isometry(space, matrix).matrix, matrix)
            if space.n == 0:
                continue
            # Spoilt at one place it is an isometry only if it still keeps the form.
            i, j = source.below(space.n), source.below(space.n)
            row = list(matrix[i])
            row[j] = (row[j] + 1) % space.q
            spoilt = matrix[:i] + (tuple(row),) + matrix[i + 1:]
            right = keeps(space, spoilt) and slow_determinant(space.q, spoilt) != 0
            self.assertIs(is_isometry(space, spoilt), right)
            self.assertEqual(outcome(Isometry, space, spoilt), None if right else "isometry")

    def test_without_inverse(self):
        """Values and products are kept, but there is no inverse."""
        for kind, q in FORMS:
            for n in range(1, 7):
                space = zero_space(kind, q, n)
                self.assertIs(is_isometry(space, ((0,) * n,) * n), False)
                self.assertEqual(outcome(Isometry, space, ((0,) * n,) * n), "isometry")
                self.assertIs(is_isometry(space, units(n)), True)

    def test_odd_values(self):
        for kind, q in FORMS:
            for n in range(4):
                for space in spaces_of(Source(132), kind, q, n)[:2]:
                    for matrix in odd_matrices(q, n):
                        self.assertIs(is_isometry(space, matrix), False, matrix)
                        self.assertEqual(outcome(Isometry, space, matrix), "malformed", matrix)

    def test_errors_in_order(self):
        space = hyperbolic("quadratic", 3, 1)
        for wrong in odd_values() + ["q 3 2: 0 1; 0 0", space.field, (space,), [space]]:
            for matrix in odd_values() + [units(2), ((0, 0), (0, 0)), space]:
                self.assertEqual(outcome(Isometry, wrong, matrix), "malformed")
        for matrix in (space, Isometry(space, units(2)), (space,), (space, space)):
            self.assertEqual(outcome(Isometry, space, matrix), "malformed")
            self.assertIs(is_isometry(space, matrix), False)
        self.assertEqual(outcome(Isometry, space, ((0, 0), (0, 0))), "isometry")
        self.assertEqual(outcome(Isometry, space, ((0, 0), (0, 3))), "malformed")
        with self.assertRaises(Refused):
            Isometry(Space("quadratic", 3, ((1,),)), ((0,),))

    def test_fields(self):
        space = hyperbolic("alternating", 5, 1)
        f = Isometry(space, ((2, 0), (0, 3)))
        self.assertIs(f.space, space)
        self.assertEqual(f.matrix, ((2, 0), (0, 3)))


class Maps(unittest.TestCase):
    def test_images(self):
        for space, f in drawn(133, 90):
            for x in walk(space.q, space.n):
                self.assertEqual(f(x), slow_moved(space.q, x, f.matrix, space.n))
        source = Source(134)
        for space, f in drawn(134, 10 ** 6):
            for x in source.rows(space.q, space.n, 5):
                y = f(x)
                self.assertEqual(y, slow_moved(space.q, x, f.matrix, space.n))
                self.assertEqual(value(space, y), value(space, x))

    def test_images_of_no_rows(self):
        for space, f in drawn(135, 30):
            for x in odd_rows(space.q, space.n):
                self.assertEqual(outcome(f, x), "malformed", x)
        f = Isometry(zero_space("quadratic", 2, 0), ())
        self.assertEqual(f(()), ())

    def test_one_after_the_other(self):
        source = Source(136)
        for space, f in drawn(136, 10 ** 6):
            g = Isometry(space, drawn_isometry(source, space))
            both = f.then(g)
            self.assertIs(type(both), Isometry)
            self.assertEqual(both.space, space)
            self.assertEqual(both.matrix, times(space.q, f.matrix, g.matrix, space.n))
            for x in source.rows(space.q, space.n, 3):
                self.assertEqual(both(x), g(f(x)))
            twin = Isometry(Space(*told(space)), g.matrix)
            self.assertEqual(f.then(twin), both)

    def test_then_malformed(self):
        space = hyperbolic("alternating", 3, 1)
        f = Isometry(space, units(2))
        others = [
            Isometry(other, units(other.n)) for other in (
                hyperbolic("quadratic", 3, 1), hyperbolic("alternating", 5, 1), hyperbolic("alternating", 3, 2),
                zero_space("alternating", 3, 2), Space("alternating", 3, ((0, 2), (1, 0))),
            )
        ]
        for g in others + odd_values() + [units(2), space, (f,), [f]]:
            self.assertEqual(outcome(f.then, g), "malformed")

    def test_inverse_and_power(self):
        for space, f in drawn(137, 10 ** 6):
            unit = units(space.n)
            back = f.inverse()
            self.assertIs(type(back), Isometry)
            self.assertEqual(times(space.q, f.matrix, back.matrix, space.n), unit)
            self.assertEqual(times(space.q, back.matrix, f.matrix, space.n), unit)
            up = down = unit
            for k in range(6):
                self.assertEqual(f.power(k).matrix, up)
                self.assertEqual(f.power(-k).matrix, down)
                up = times(space.q, up, f.matrix, space.n)
                down = times(space.q, down, back.matrix, space.n)
            great = f.power(10 ** 6)
            self.assertEqual(f.power(10 ** 6 + 3), great.then(f.power(3)))
            self.assertEqual(f.power(-10 ** 6), great.inverse())
            self.assertEqual((f.power(2).space, f.power(-1)), (space, back))

    def test_identity(self):
        for space, f in drawn(138, 90):
            self.assertIs(f.is_identity(), f.matrix == units(space.n))
            self.assertIs(f.power(0).is_identity(), True)
            self.assertIs(f.then(f.inverse()).is_identity(), True)

    def test_order(self):
        for space, f in drawn(139, 260):
            k, matrix = 1, f.matrix
            while matrix != units(space.n):
                k, matrix = k + 1, times(space.q, matrix, f.matrix, space.n)
            self.assertEqual(f.order(), k)
            self.assertIs(f.power(k).is_identity(), True)
            self.assertEqual(f.power(k * 10 ** 30 + 1), f)

    def test_great_orders(self):
        """A map that goes round all rows but 0 has the order q^n - 1, its k-th power that divided by k."""
        for q, n in ROUNDS:
            f = Isometry(zero_space("alternating", q, n), round_map(q, n))
            whole = q ** n - 1
            for k in (1, 2, 3, 4, 7, 8, 260, 280):
                if whole % k == 0 and whole // k > 1:
                    if whole // k > 2000:
                        self.assertEqual(outcome(f.power(k).order), "many")
                    else:
                        self.assertEqual(f.power(k).order(), whole // k)
        # 15624 / 8 is 1953, 15624 / 7 is 2232; 531440 / 280 is 1898, 531440 / 260 is 2044.
        self.assertLess({(5, 6), (9, 6)}, set(ROUNDS))

    def test_orders_of_blocks(self):
        """Maps side by side have the least common multiple of their orders."""
        for q, sizes, n, expected in (
            (5, (3, 2), 5, 744), (5, (4, 2), 6, 624), (3, (4, 2), 6, 80), (3, (5,), 6, 242), (4, (3, 3), 6, 63),
        ):
            for kind in ("quadratic", "alternating"):
                f = Isometry(zero_space(kind, q, n), side_by_side(q, sizes, n))
                self.assertEqual(f.order(), expected)

    def test_equality(self):
        space = hyperbolic("quadratic", 5, 1)
        f = Isometry(space, ((2, 0), (0, 3)))
        self.assertTrue(f == Isometry(hyperbolic("quadratic", 5, 1), ((2, 0), (0, 3))))
        self.assertFalse(f == Isometry(space, ((3, 0), (0, 2))))
        self.assertFalse(f == Isometry(hyperbolic("alternating", 5, 1), ((2, 0), (0, 3))))
        for other in odd_values() + [f.matrix, space, (f,), [f]]:
            self.assertIs(f == other, False)
        self.assertIs(f == f, True)


def round_map(q, n):
    """The matrix of a map that takes each unit row to the next one and goes round all rows but 0."""
    return units(n)[1:] + (ROUNDS[q, n],)


def side_by_side(q, sizes, n):
    """A matrix of blocks that go round all rows of the sizes, and the unit matrix for what is left."""
    matrix = [list(row) for row in units(n)]
    place = 0
    for size in sizes:
        for i, row in enumerate(round_map(q, size)):
            matrix[place + i] = [0] * place + list(row) + [0] * (n - place - size)
        place += size
    return tuple(map(tuple, matrix))


class FixedAndResidual(unittest.TestCase):
    def check_spaces(self, space, f):
        q, n = space.q, space.n
        fixed, residual = f.fixed(), f.residual()
        self.assertTrue(looks_reduced(fixed) and looks_reduced(residual))
        self.assertEqual(len(fixed) + len(residual), n)
        for x, y in product(fixed, residual):
            self.assertEqual(product_of(space, x, y), 0)
        return fixed, residual

    def test_walked(self):
        for space, f in drawn(140, 730):
            q, n = space.q, space.n
            fixed, residual = self.check_spaces(space, f)
            images = {x: slow_moved(q, x, f.matrix, n) for x in walk(q, n)}
            self.assertEqual(span_set(q, fixed, n), {x for x in images if images[x] == x})
            minus = {slow_add(q, images[x], slow_scaled(q, x, MINUS[q][1])) for x in images}
            self.assertEqual(span_set(q, residual, n), minus)

    def test_six_dimensions(self):
        source = Source(143)
        for space, f in drawn(142, 10 ** 6):
            fixed, residual = self.check_spaces(space, f)
            for x in fixed:
                self.assertEqual(f(x), x)
            for x in source.rows(space.q, space.n, 3):
                minus = slow_add(space.q, f(x), slow_scaled(space.q, x, MINUS[space.q][1]))
                self.assertTrue(holds(space.field, residual, minus))
                self.assertTrue(all(product_of(space, y, minus) == 0 for y in fixed))
            if not space.radical():
                self.assertEqual(space.perp(fixed), residual)
                self.assertEqual(space.perp(residual), fixed)

    def test_identity(self):
        for kind, q in FORMS:
            for n in range(7):
                f = Isometry(zero_space(kind, q, n), units(n))
                self.assertEqual((f.fixed(), f.residual()), (units(n), ()))

    def test_all_of_small_spaces(self):
        for space in drawn_spaces(Source(144), lambda kind, q: most_dimension(q, 10)):
            for matrix in all_isometries(space):
                f = Isometry(space, matrix)
                fixed, residual = self.check_spaces(space, f)
                for weights in walk(space.q, len(fixed)):
                    x = slow_combine(space.q, fixed, weights, space.n)
                    self.assertEqual(slow_moved(space.q, x, matrix, space.n), x)


if __name__ == "__main__":
    unittest.main()
