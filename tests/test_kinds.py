import unittest

from helper import (
    FORMS, MINUS, MIRROR, Source, TIMES, most_dimension, odd_values, slow_add, slow_moved, slow_scaled, walk,
)
from maps import drawn_spaces, inverse_of, odd_rows, outcome, product_of, spaces_of, unitary_choices, units, value
from wittspaces.build import hyperbolic, zero_space
from wittspaces.isometry import Isometry
from wittspaces.kinds import reflection, siegel, transvection, unitary, unitary_numbers
from wittspaces.space import Space

ALTERNATING = [form for form in FORMS if form[0] == "alternating"]
QUADRATIC = [form for form in FORMS if form[0] == "quadratic"]
HERMITIAN = [form for form in FORMS if form[0] == "hermitian"]


def spaces(seed, forms, most_rows=90):
    return drawn_spaces(Source(seed), lambda kind, q: most_dimension(q, most_rows), forms)


def larger(seed, forms):
    return [space for kind, q in forms for n in (5, 6) for space in spaces_of(Source(seed), kind, q, n)]


def plus_multiple(q, x, c, y):
    return slow_add(q, x, slow_scaled(q, y, c))


class Formulas(unittest.TestCase):
    def check_map(self, space, f, image):
        """`f` is an isometry that takes each unit row, and some sums, to its `image`."""
        self.assertIs(type(f), Isometry)
        self.assertEqual(f.space, space)
        self.assertEqual(f.matrix, tuple(image(x) for x in units(space.n)))
        for x in Source(150).rows(space.q, space.n, 2):
            self.assertEqual(slow_moved(space.q, x, f.matrix, space.n), image(x))
            self.assertEqual(value(space, image(x)), value(space, x))

    def check_reflection(self, space, u):
        q = space.q
        factor = inverse_of(q, value(space, u))
        f = reflection(space, u)
        self.check_map(space, f, lambda x: plus_multiple(
            q, x, MINUS[q][TIMES[q][product_of(space, x, u)][factor]], u
        ))
        self.assertEqual(f(u), slow_scaled(q, u, MINUS[q][1]))
        self.assertIs(f.then(f).is_identity(), True)
        if not any(product_of(space, x, u) for x in units(space.n)):
            self.assertIs(f.is_identity(), True)

    def test_reflection(self):
        for space in spaces(151, QUADRATIC):
            for u in walk(space.q, space.n):
                if value(space, u) == 0:
                    self.assertEqual(outcome(reflection, space, u), "isometry")
                else:
                    self.check_reflection(space, u)
        for space in larger(152, QUADRATIC):
            for u in Source(153).rows(space.q, space.n, 2):
                if value(space, u) != 0:
                    self.check_reflection(space, u)

    def check_transvection(self, space, u, c):
        q = space.q
        f = transvection(space, u, c)
        self.check_map(space, f, lambda x: plus_multiple(q, x, TIMES[q][c][product_of(space, x, u)], u))
        self.assertEqual(f.inverse(), transvection(space, u, MINUS[q][c]))

    def test_transvection(self):
        for space in spaces(154, ALTERNATING, 30):
            for u in walk(space.q, space.n):
                for c in range(space.q):
                    self.check_transvection(space, u, c)
        for space in larger(155, ALTERNATING):
            source = Source(156)
            self.check_transvection(space, source.row(space.q, space.n), source.below(space.q))

    def check_unitary(self, space, u, c):
        q = space.q
        f = unitary(space, u, c)
        self.check_map(space, f, lambda x: plus_multiple(q, x, TIMES[q][c][product_of(space, x, u)], u))
        self.assertEqual(f.inverse(), unitary(space, u, MIRROR[q][c]))

    def test_unitary(self):
        for space in spaces(157, HERMITIAN):
            for u in walk(space.q, space.n):
                choices = unitary_choices(space, u)
                self.assertEqual(unitary_numbers(space, u), tuple(choices))
                for c in range(space.q):
                    if c in choices:
                        self.check_unitary(space, u, c)
                    else:
                        self.assertEqual(outcome(unitary, space, u, c), "isometry")
        for space in larger(158, HERMITIAN):
            for u in Source(159).rows(space.q, space.n, 2):
                for c in unitary_choices(space, u):
                    self.check_unitary(space, u, c)

    def test_unitary_numbers(self):
        """As many numbers as norms: `p + 1` with a value other than 0, otherwise `p`."""
        for space in spaces(160, HERMITIAN):
            for u in walk(space.q, space.n):
                found = unitary_numbers(space, u)
                self.assertEqual(len(found), space.field.p + (value(space, u) != 0))
                self.assertEqual(found[0], 0)

    def siegel_image(self, space, u, w, x):
        q = space.q
        image = plus_multiple(q, x, product_of(space, x, u), w)
        image = plus_multiple(q, image, MINUS[q][product_of(space, x, w)], u)
        return plus_multiple(q, image, MINUS[q][TIMES[q][value(space, w)][product_of(space, x, u)]], u)

    def check_siegel(self, space, u, w):
        f = siegel(space, u, w)
        self.check_map(space, f, lambda x: self.siegel_image(space, u, w, x))
        self.assertEqual(f.inverse(), siegel(space, u, slow_scaled(space.q, w, MINUS[space.q][1])))

    def test_siegel(self):
        for space in spaces(161, QUADRATIC, 30):
            for u in walk(space.q, space.n):
                for w in walk(space.q, space.n):
                    if value(space, u) == 0 and product_of(space, u, w) == 0:
                        self.check_siegel(space, u, w)
                    else:
                        self.assertEqual(outcome(siegel, space, u, w), "isometry")
        for kind, q in QUADRATIC:
            space = hyperbolic(kind, q, 3)
            for row in Source(162).rows(q, 4, 3):
                self.check_siegel(space, (1, 0, 0, 0, 0, 0), (0, 0, *row))

    def test_told_maps(self):
        self.assertEqual(reflection(Space("quadratic", 2, ((0, 1), (0, 0))), (1, 1)).matrix, ((0, 1), (1, 0)))
        self.assertEqual(transvection(hyperbolic("alternating", 3, 1), (0, 1), 1).matrix, ((1, 1), (0, 1)))
        self.assertEqual(unitary(Space("hermitian", 4, ((1,),)), (1,), 2).matrix, ((3,),))
        self.assertEqual(
            siegel(hyperbolic("quadratic", 5, 2), (1, 0, 0, 0), (0, 0, 1, 1)).matrix,
            ((1, 0, 0, 0), (4, 1, 1, 1), (4, 0, 1, 0), (4, 0, 0, 1)),
        )
        # A row of the radical leaves all rows as they are.
        space = Space("quadratic", 4, ((2, 0), (0, 0)))
        self.assertIs(reflection(space, (1, 3)).is_identity(), True)


class Errors(unittest.TestCase):
    def calls(self, space, u, c):
        """Calls with a value for a row and a value for a number."""
        return [
            ("quadratic", reflection, (space, u)), ("alternating", transvection, (space, u, c)),
            ("hermitian", unitary, (space, u, c)), ("hermitian", unitary_numbers, (space, u)),
            ("quadratic", siegel, (space, u, space.zero())), ("quadratic", siegel, (space, space.zero(), u)),
        ]

    def test_kind_comes_first(self):
        for kind, q in FORMS:
            for space in spaces_of(Source(163), kind, q, 2):
                for u in (space.zero(), space.unit(1), None, (q, q), [0, 0]):
                    for c in (0, q, None, True):
                        for wanted, function, arguments in self.calls(space, u, c):
                            if kind != wanted:
                                self.assertEqual(outcome(function, *arguments), "kind")

    def test_malformed_comes_second(self):
        for kind, q in FORMS:
            for n in range(3):
                space = spaces_of(Source(164), kind, q, n)[-1]
                for u in odd_rows(q, n):
                    # With 1 the number is not always right; it is not looked at.
                    for c in (0, 1):
                        for wanted, function, arguments in self.calls(space, u, c):
                            if kind == wanted:
                                self.assertEqual(outcome(function, *arguments), "malformed", (function, u))

    def test_odd_numbers(self):
        for kind, q in ALTERNATING + HERMITIAN:
            for n in range(3):
                space = zero_space(kind, q, n)
                function = transvection if kind == "alternating" else unitary
                for c in odd_values() + [q, q + 1, -1]:
                    self.assertEqual(outcome(function, space, space.zero(), c), "malformed", c)

    def test_siegel_with_one_right_row(self):
        """Malformed comes ahead of what does not hold."""
        for _, q in QUADRATIC:
            space = Space("quadratic", q, ((1, 0), (0, 1)))
            for w in odd_rows(q, 2):
                self.assertEqual(outcome(siegel, space, (1, 0), w), "malformed")
            self.assertEqual(outcome(siegel, space, (1, 0), (0, 1)), "isometry")
            self.assertEqual(outcome(siegel, hyperbolic("quadratic", q, 1), (1, 0), (0, 1)), "isometry")

    def test_no_rows(self):
        self.assertEqual(outcome(reflection, zero_space("quadratic", 3, 0), ()), "isometry")
        self.assertEqual(transvection(zero_space("alternating", 3, 0), (), 2).matrix, ())
        self.assertEqual(siegel(zero_space("quadratic", 4, 0), (), ()).matrix, ())
        self.assertEqual(unitary_numbers(zero_space("hermitian", 9, 0), ()), (0, 3, 6))


if __name__ == "__main__":
    unittest.main()
