import unittest
from itertools import product

from helper import FORMS, MIRROR, PLUS, Source, TIMES, slow_add, slow_moved, slow_scaled, walk
from maps import drawn_isometry, drawn_spaces, keeps, outcome, product_of, spaces_of, times, told, units, value
from wittspaces.build import hyperbolic, zero_space
from wittspaces.counts import value_counts
from wittspaces.groups import isometries
from wittspaces.isometry import Isometry, is_isometry
from wittspaces.normal import invariants, sign
from wittspaces.related import (
    polar_space, quadratics, shift_between, shifted, sign_counts, trace_matrix, trace_row, trace_space,
)
from wittspaces.space import Space

HERMITIAN = [("hermitian", 4), ("hermitian", 9)]
EVEN = [("quadratic", 2), ("quadratic", 4)]
PRIME = {4: 2, 9: 3}


def hermitians(seed, most=3, each=2):
    return drawn_spaces(Source(seed), lambda kind, q: most, HERMITIAN, each)


def pairs_of(q, x):
    """The pairs (a, e) of the items a + p e."""
    found = []
    for c in x:
        found += [(a, e) for a in range(PRIME[q]) for e in range(PRIME[q]) if a + PRIME[q] * e == c][0]
    return tuple(found)


def trace(q, c):
    return PLUS[q][c][MIRROR[q][c]]


class TraceSpaces(unittest.TestCase):
    def test_values_and_products(self):
        for space in hermitians(360):
            q, n, source = space.q, space.n, Source(361)
            found = trace_space(space)
            self.assertEqual((found.kind, found.q, found.n), ("quadratic", PRIME[q], 2 * n))
            rows = walk(q, n) if q ** n < 100 else [source.row(q, n) for _ in range(100)]
            for x in rows:
                self.assertEqual(value(found, pairs_of(q, x)), value(space, x), told(space))
            for _ in range(60):
                x, y = rows[source.below(len(rows))], rows[source.below(len(rows))]
                expected = trace(q, product_of(space, x, y))
                self.assertEqual(product_of(found, pairs_of(q, x), pairs_of(q, y)), expected)
                self.assertEqual(found.product(pairs_of(q, x), pairs_of(q, y)), expected)

    def test_rows(self):
        for space in hermitians(362, each=1):
            q, p, n = space.q, PRIME[space.q], space.n
            for x in Source(363).rows(q, n, 20):
                self.assertEqual(trace_row(space, x), pairs_of(q, x))
            # Sums, and multiples by fixed numbers, are kept.
            for x, y in zip(Source(364).rows(q, n, 10), Source(365).rows(q, n, 10)):
                self.assertEqual(
                    trace_row(space, slow_add(q, x, y)), slow_add(p, trace_row(space, x), trace_row(space, y))
                )
                for c in range(p):
                    self.assertEqual(trace_row(space, slow_scaled(q, x, c)), slow_scaled(p, trace_row(space, x), c))
        self.assertEqual(trace_row(zero_space("hermitian", 9, 3), (5, 0, 7)), (2, 1, 0, 0, 1, 2))
        self.assertEqual(trace_row(zero_space("hermitian", 4, 3), (1, 2, 3)), (1, 0, 0, 1, 1, 1))
        self.assertEqual(trace_row(zero_space("hermitian", 4, 0), ()), ())

    def test_radicals_are_doubled(self):
        for space in hermitians(366):
            q, p, n = space.q, PRIME[space.q], space.n
            found = trace_space(space)
            size, r, s, _ = invariants(space)
            self.assertEqual(invariants(found)[:3], (2 * size, 2 * r, 2 * s))
            for x in space.radical():
                for c in range(q):
                    row = pairs_of(q, slow_scaled(q, x, c))
                    self.assertEqual(value(found, row), 0)
                    self.assertFalse(any(product_of(found, row, unit) for unit in units(2 * n)))
            k = n - r
            self.assertEqual(sign(found), (-1) ** k)
            zeros = p ** (2 * k - 1) + (-1) ** k * (p ** k - p ** (k - 1)) if k else 1
            self.assertEqual(value_counts(found)[0], zeros * q ** s)

    def test_matrices(self):
        """Any matrix, also without an inverse."""
        for space in hermitians(367, each=1):
            q, p, n = space.q, PRIME[space.q], space.n
            source = Source(368)
            for _ in range(6):
                matrix = source.rows(q, n, n)
                found = trace_matrix(space, matrix)
                self.assertEqual((type(found), {type(row) for row in found}), (tuple, {tuple} if n else set()))
                self.assertEqual((len(found), {len(row) for row in found}), (2 * n, {2 * n} if n else set()))
                for x in source.rows(q, n, 6):
                    image = slow_moved(q, x, matrix, n)
                    self.assertEqual(slow_moved(p, pairs_of(q, x), found, 2 * n), pairs_of(q, image))
                other = source.rows(q, n, n)
                both = times(q, matrix, other, n)
                self.assertEqual(trace_matrix(space, both), times(p, found, trace_matrix(space, other), 2 * n))
            self.assertEqual(trace_matrix(space, units(n)), units(2 * n))

    def test_isometries(self):
        for space in hermitians(369):
            q, n, source = space.q, space.n, Source(370)
            found = trace_space(space)
            for _ in range(3):
                matrix = drawn_isometry(source, space)
                image = trace_matrix(space, matrix)
                self.assertIs(is_isometry(found, image), True)
                self.assertTrue(keeps(found, image))
                self.assertEqual(Isometry(found, image)(pairs_of(q, (1,) * n)), pairs_of(
                    q, slow_moved(q, (1,) * n, matrix, n)))

    def test_errors(self):
        for kind, q in FORMS:
            for n in range(7):
                for space in (*spaces_of(Source(371), kind, q, n), zero_space(kind, q, n)):
                    due = "kind" if kind != "hermitian" else "large" if n > 3 else None
                    self.assertEqual(outcome(trace_space, space), due)
                    self.assertEqual(outcome(trace_row, space, (0,) * n), due)
                    self.assertEqual(outcome(trace_matrix, space, units(n)), due)

    def test_told(self):
        self.assertEqual(str(trace_space(Space("hermitian", 4, ((1,),)))), "q 2 2: 1 1; 0 1")
        self.assertEqual(str(trace_space(Space("hermitian", 9, ((1,),)))), "q 3 2: 1 0; 0 1")
        self.assertEqual(str(trace_space(zero_space("hermitian", 9, 0))), "q 3 0:")


def evens(seed, most, each=1):
    return drawn_spaces(Source(seed), lambda kind, q: most, EVEN, each)


def alternating_evens(seed, most, each=1):
    return drawn_spaces(Source(seed), lambda kind, q: most, [("alternating", 2), ("alternating", 4)], each)


class PolarSpaces(unittest.TestCase):
    def test_products(self):
        for space in evens(380, 6):
            q, n = space.q, space.n
            found = polar_space(space)
            self.assertEqual((found.kind, found.q, found.n), ("alternating", q, n))
            for x, y in zip(Source(381).rows(q, n, 12), Source(382).rows(q, n, 12)):
                self.assertEqual(product_of(found, x, y), product_of(space, x, y))
            self.assertEqual(found.gram(), space.gram())

    def test_errors(self):
        for kind, q in FORMS:
            for n in range(7):
                space = zero_space(kind, q, n)
                due = "kind" if kind != "quadratic" else "odd" if q % 2 else None
                self.assertEqual(outcome(polar_space, space), due)
                self.assertEqual(outcome(shifted, space, space.zero()), due)
                due = "kind" if kind != "alternating" else "odd" if q % 2 else None
                many = "many" if q ** n > 2000 else None
                self.assertEqual(outcome(quadratics, space), due or many)
                self.assertEqual(outcome(sign_counts, space), due or ("radical" if n else None))


class Quadratics(unittest.TestCase):
    def test_all_forms(self):
        for space in alternating_evens(383, 4):
            q, n = space.q, space.n
            found = quadratics(space)
            self.assertIs(type(found), tuple)
            diagonals = [tuple(one.matrix[i][i] for i in range(n)) for one in found]
            self.assertEqual(diagonals, walk(q, n))
            for one in found[::7]:
                self.assertEqual((one.kind, one.q, one.n), ("quadratic", q, n))
                self.assertEqual(polar_space(one), space)
                for x, y in zip(Source(384).rows(q, n, 3), Source(385).rows(q, n, 3)):
                    self.assertEqual(product_of(one, x, y), product_of(space, x, y))

    def test_bounds(self):
        for q, most in ((2, 6), (4, 5)):
            for n in range(7):
                for space in (zero_space("alternating", q, n), *spaces_of(Source(386), "alternating", q, n)):
                    if n > most:
                        self.assertEqual(outcome(quadratics, space), "many")
                    else:
                        found = quadratics(space)
                        self.assertEqual(len(found), q ** n)
                        self.assertTrue(all(polar_space(one) == space for one in found[::97]))

    def test_told(self):
        found = [str(one) for one in quadratics(hyperbolic("alternating", 2, 1))]
        self.assertEqual(found, ["q 2 2: 0 1; 0 0", "q 2 2: 0 1; 0 1", "q 2 2: 1 1; 0 0", "q 2 2: 1 1; 0 1"])
        self.assertEqual([str(one) for one in quadratics(zero_space("alternating", 4, 0))], ["q 4 0:"])


class Shifts(unittest.TestCase):
    def test_by_the_definition(self):
        """Also with a radical."""
        for space in evens(387, 6):
            q, n = space.q, space.n
            for a in (*Source(388).rows(q, n, 4), space.zero(), *space.radical()):
                found = shifted(space, a)
                self.assertEqual((found.kind, found.q, found.n), ("quadratic", q, n))
                for x in (*Source(389).rows(q, n, 8), *units(n)):
                    b = product_of(space, a, x)
                    self.assertEqual(value(found, x), PLUS[q][value(space, x)][TIMES[q][b][b]])
                self.assertEqual(polar_space(found), polar_space(space))

    def test_row_between_two_forms(self):
        for space in evens(390, 6, 2):
            q, n = space.q, space.n
            if space.radical():
                continue
            for a in (*Source(391).rows(q, n, 5), space.zero()):
                found = shift_between(space, shifted(space, a))
                self.assertEqual((type(found), found), (tuple, a))
            forms = quadratics(polar_space(space)) if q ** n < 300 else ()
            source = Source(392)
            for _ in range(10 if forms else 0):
                one, two = forms[source.below(len(forms))], forms[source.below(len(forms))]
                a = shift_between(one, two)
                self.assertEqual(shifted(one, a), two)
                self.assertEqual([b for b in walk(q, n) if shifted(one, b) == two], [a])

    def test_signs(self):
        """Equal exactly if the value of the row is a number c + c c."""
        for space in evens(393, 4, 2):
            q, n = space.q, space.n
            if space.radical():
                continue
            half = {PLUS[q][c][TIMES[q][c][c]] for c in range(q)}
            for a in Source(394).rows(q, n, 12):
                self.assertIs(sign(shifted(space, a)) == sign(space), value(space, a) in half)

    def test_errors_of_the_row_between(self):
        spaces = [zero_space(kind, q, n) for kind, q in FORMS for n in (0, 1, 2)]
        spaces += [hyperbolic(kind, q, m) for kind, q in FORMS for m in (1, 2)]
        seen = set()
        for one, two in product(spaces, spaces):
            due = None
            for space in (one, two):
                due = due or ("kind" if space.kind != "quadratic" else "odd" if space.q % 2 else None)
            if due is None and (one.q, one.gram()) != (two.q, two.gram()):
                due = "malformed"
            if due is None and one.radical():
                due = "radical"
            self.assertEqual(outcome(shift_between, one, two), due)
            seen.add(due)
        self.assertEqual(seen, {"kind", "odd", "malformed", "radical", None})


class SignCounts(unittest.TestCase):
    def test_signs_counted(self):
        for space in alternating_evens(395, 4, 2):
            if space.radical():
                self.assertEqual(outcome(sign_counts, space), "radical")
                continue
            signs = [sign(one) for one in quadratics(space)]
            self.assertEqual(sign_counts(space), (signs.count(1), signs.count(-1)))

    def test_bigger_spaces(self):
        for q in (2, 4):
            for space in spaces_of(Source(396), "alternating", q, 6):
                if not space.radical():
                    self.assertEqual(sign_counts(space), ((q ** 6 + q ** 3) // 2, (q ** 6 - q ** 3) // 2))
        # From a hyperbolic form: the rows with a value c + c c, and the others.
        counts = value_counts(hyperbolic("quadratic", 4, 3))
        self.assertEqual(sign_counts(hyperbolic("alternating", 4, 3)), (counts[0] + counts[1], counts[2] + counts[3]))
        signs = [sign(one) for one in quadratics(hyperbolic("alternating", 2, 3))]
        self.assertEqual(sign_counts(hyperbolic("alternating", 2, 3)), (signs.count(1), signs.count(-1)))

    def test_told(self):
        self.assertEqual(sign_counts(hyperbolic("alternating", 2, 2)), (10, 6))
        self.assertEqual(sign_counts(zero_space("alternating", 4, 0)), (1, 0))

    def test_forms_carried_onto_each_other(self):
        """Isometries of the polar space carry a form to each other one of its sign."""
        space = hyperbolic("alternating", 2, 1)
        forms = quadratics(space)
        for one in forms:
            reached = set()
            for matrix in isometries(space):
                diagonal = tuple(value(one, row) for row in matrix)
                reached.add(str([form for form in forms if tuple(form.matrix[i][i] for i in (0, 1)) == diagonal][0]))
            self.assertEqual(reached, {str(form) for form in forms if sign(form) == sign(one)})


if __name__ == "__main__":
    unittest.main()
