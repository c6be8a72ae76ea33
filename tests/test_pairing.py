import unittest

from helper import (
    FORMS, MINUS, PLUS, SIZES, Source, TIMES, looks_reduced, odd_values, slow_add, slow_determinant, slow_scaled,
    span_set, walk,
)
from maps import (
    along, drawn_isometry, drawn_spaces, inverse_of, keeps, odd_matrices, outcome, rank, spaces_of, times, told, units,
    value,
)
from wittspaces.build import hyperbolic, zero_space
from wittspaces.clifford import Clifford
from wittspaces.counts import value_counts
from wittspaces.normal import normal_space, sign
from wittspaces.pairing import even_centre, is_pairing, pairing, sign_by_pairing, swaps
from wittspaces.space import Space

QUADRATIC = [form for form in FORMS if form[0] == "quadratic"]


def paired(seed, each=2):
    """Spaces of the dimensions 0, 2 and 4 without radical, in drawn bases."""
    for space in drawn_spaces(Source(seed), lambda kind, q: 4, QUADRATIC, each):
        if space.n % 2 == 0 and not space.radical():
            yield space


def times_two(q, c):
    return PLUS[q][c][c]


def other(algebra, z):
    return algebra.add(algebra.number(1), algebra.negative(z))


def slow_is_pairing(space, z, d):
    """By the words of point 7.3, multiplied out."""
    q, algebra = space.q, Clifford(space)
    for u in units(space.n):
        u = algebra.row(u)
        if algebra.multiply(u, z) != algebra.multiply(other(algebra, z), u):
            return False
    less = algebra.add(z, algebra.number(MINUS[q][d]))
    return algebra.is_even(z) and algebra.multiply(z, z) == less and times_two(q, times_two(q, d)) != 1


class Pairings(unittest.TestCase):
    def test_pairing(self):
        for space in paired(240, 4):
            found = pairing(space)
            self.assertIs(type(found), tuple)
            z, d = found
            self.assertTrue(Clifford(space).is_element(z) and space.field.is_number(d))
            self.assertTrue(slow_is_pairing(space, z, d), told(space))
            self.assertIs(is_pairing(space, z, d), True)

    def test_rows_that_are_no_units(self):
        for space in paired(241, 1):
            algebra = Clifford(space)
            z, _ = pairing(space)
            for u in Source(242).rows(space.q, space.n, 3):
                u = algebra.row(u)
                self.assertEqual(algebra.multiply(u, z), algebra.multiply(other(algebra, z), u))

    def test_other_pairings(self):
        """`1 - z` goes with the same number; the others are told by point 7.4."""
        for space in paired(243, 1):
            q, algebra = space.q, Clifford(space)
            z, d = pairing(space)
            self.assertIs(is_pairing(space, other(algebra, z), d), True)
            for c in range(q):
                if q in (2, 4):
                    changed = algebra.add(z, algebra.number(c))
                    worth = PLUS[q][PLUS[q][d][c]][TIMES[q][c][c]]
                    right = True
                else:
                    # 1 - 2 z and 1 - 4 d multiplied by c and c c.
                    half = inverse_of(q, 2)
                    swapped = algebra.scaled(algebra.add(algebra.number(1), algebra.scaled(z, MINUS[q][2])), c)
                    changed = algebra.scaled(other(algebra, swapped), half)
                    four = times_two(q, 2)
                    less = PLUS[q][1][MINUS[q][TIMES[q][four][d]]]
                    worth = TIMES[q][PLUS[q][1][MINUS[q][TIMES[q][TIMES[q][c][c]][less]]]][inverse_of(q, four)]
                    right = c != 0
                self.assertIs(is_pairing(space, changed, worth), right, (told(space), c))
                self.assertIs(slow_is_pairing(space, changed, worth), right)

    def test_all_elements(self):
        """Planes over few numbers: all pairs."""
        for q in (2, 3, 4, 5):
            for space in spaces_of(Source(244), "quadratic", q, 2):
                many = 0
                for z in walk(q, 4):
                    for d in range(q):
                        found = is_pairing(space, z, d)
                        right = slow_is_pairing(space, z, d) and not space.radical()
                        self.assertIs(found, right)
                        many += found
                # Each number c other than 0, or each number c at all, gives one other z.
                expected = 0 if space.radical() else q if q in (2, 4) else q - 1
                self.assertEqual(many, expected)

    def test_is_pairing_of_other_values(self):
        for q in SIZES:
            for space in (hyperbolic("quadratic", q, 0), hyperbolic("quadratic", q, 1), hyperbolic("quadratic", q, 2)):
                z, d = pairing(space)
                for wrong in odd_values() + [list(z), z + (0,), (z,), z[:-1], z[:-1] + (q,), {}, space]:
                    if wrong != z:
                        self.assertIs(is_pairing(space, wrong, d), False)
                for wrong in odd_values() + [q, -1, (d,), d + q]:
                    self.assertIs(is_pairing(space, z, wrong), False)
                self.assertIs(is_pairing(space, None, None), False)
                if space.n:
                    # No even element.
                    wrong = z[:1] + (PLUS[q][z[1]][1],) + z[2:]
                    self.assertIs(is_pairing(space, wrong, d), False)

    def test_is_pairing_of_other_spaces(self):
        """Odd dimensions, and spaces with a radical, have none."""
        for q in SIZES:
            for n in range(6):
                for space in spaces_of(Source(245), "quadratic", q, n):
                    if n % 2 == 1 or space.radical():
                        for z in (space.zero(), (0,) * 2 ** n, (1,) + (0,) * (2 ** n - 1), None):
                            for d in (0, 1, None):
                                self.assertIs(is_pairing(space, z, d), False)

    def test_told(self):
        self.assertIs(is_pairing(hyperbolic("quadratic", 3, 1), (0, 0, 0, 1), 0), True)
        self.assertIs(is_pairing(hyperbolic("quadratic", 3, 1), (0, 0, 0, 1), 1), False)
        self.assertIs(is_pairing(hyperbolic("quadratic", 3, 1), (1, 0, 0, 2), 0), True)
        self.assertEqual(pairing(zero_space("quadratic", 7, 0)), ((0,), 0))
        self.assertEqual(sign_by_pairing(zero_space("quadratic", 7, 0)), 1)
        # 1 - 4 d is 0 here, but all else holds.
        self.assertIs(is_pairing(zero_space("quadratic", 3, 0), (2,), 1), False)
        self.assertIs(is_pairing(zero_space("quadratic", 3, 0), (1,), 0), True)


class Errors(unittest.TestCase):
    def expected(self, space):
        if space.kind != "quadratic":
            return "kind"
        if space.n % 2 == 1:
            return "even"
        if space.n > 5:
            return "large"
        return "radical" if space.radical() else None

    def test_order(self):
        for kind, q in FORMS:
            for n in range(7):
                for space in (*spaces_of(Source(246), kind, q, n), zero_space(kind, q, n)):
                    expected = self.expected(space)
                    self.assertEqual(outcome(pairing, space), expected)
                    self.assertEqual(outcome(sign_by_pairing, space), expected)
                    self.assertEqual(outcome(swaps, space, units(n)), expected)
                    for matrix in (None, ((0,) * n,) * n):
                        found = outcome(swaps, space, matrix)
                        if expected is not None:
                            self.assertEqual(found, expected)
                        else:
                            self.assertIn(found, ("malformed", "isometry", None))
                    expected = "kind" if kind != "quadratic" else "large" if n == 6 else None
                    if expected is not None:
                        self.assertEqual(outcome(even_centre, space), expected)

    def test_swaps(self):
        for q in SIZES:
            for n in (0, 2, 4):
                space = hyperbolic("quadratic", q, n // 2)
                for matrix in odd_matrices(q, n):
                    self.assertEqual(outcome(swaps, space, matrix), "malformed")
                for matrix in Source(247).rows(q, n * n, 4):
                    matrix = tuple(matrix[i * n:i * n + n] for i in range(n))
                    self.assertEqual(outcome(swaps, space, matrix), None if keeps(space, matrix) else "isometry")


class Signs(unittest.TestCase):
    def test_against_the_normal_form(self):
        for space in paired(248, 4):
            found = sign_by_pairing(space)
            self.assertIn(found, (1, -1))
            self.assertEqual(found, sign(space))
            zeros = sum(value(space, x) == 0 for x in walk(space.q, space.n)) if space.q ** space.n < 700 else \
                value_counts(space)[0]
            q, m = space.q, space.n // 2
            if m:
                self.assertEqual(zeros, q ** (2 * m - 1) + found * (q ** m - q ** (m - 1)))

    def test_both_signs(self):
        for q in SIZES:
            for n in (2, 4):
                found = {sign_by_pairing(normal_space("quadratic", q, (n, 0, 0, mark))) for mark in (1, -1)}
                self.assertEqual(found, {1, -1})


class Swaps(unittest.TestCase):
    def test_reflections_swap(self):
        for space in paired(249, 1):
            q = space.q
            for u in Source(250).rows(q, space.n, 4):
                if value(space, u) != 0:
                    matrix = along(space, u, MINUS[q][inverse_of(q, value(space, u))])
                    self.assertEqual(swaps(space, matrix), 1)

    def test_products(self):
        seen = set()
        for space in paired(251, 3):
            source = Source(252)
            one, two = drawn_isometry(source, space, 1 + source.below(3)), drawn_isometry(source, space)
            both = times(space.q, one, two, space.n)
            self.assertEqual(swaps(space, both), (swaps(space, one) + swaps(space, two)) % 2)
            self.assertEqual(swaps(space, units(space.n)), 0)
            if space.q % 2 == 1:
                self.assertEqual(swaps(space, both), int(slow_determinant(space.q, both) != 1))
            # In characteristic 2, too, it is the dimension of the residual space, modulo 2.
            minus = [slow_add(space.q, x, slow_scaled(space.q, y, MINUS[space.q][1]))
                     for x, y in zip(both, units(space.n))]
            self.assertEqual(swaps(space, both), rank(space.q, minus) % 2)
            seen.add((space.q, swaps(space, both)))
        self.assertEqual(seen, {(q, one) for q in SIZES for one in (0, 1)})

    def test_image_of_the_pairing(self):
        for space in paired(253, 1):
            algebra = Clifford(space)
            z, d = pairing(space)
            matrix = drawn_isometry(Source(254), space)
            image = algebra.image(matrix, z)
            self.assertIs(is_pairing(space, image, d), True)
            self.assertEqual(image, other(algebra, z) if swaps(space, matrix) else z)


class EvenCentre(unittest.TestCase):
    def test_against_all_even_elements(self):
        for q, most in ((2, 4), (3, 3), (4, 3), (5, 3), (7, 2), (9, 2)):
            for n in range(most + 1):
                for space in spaces_of(Source(255), "quadratic", q, n):
                    self.check_walked(space)
        for q in (3, 4):
            for numbers in ((4, 0, 0, 1), (4, 0, 0, -1), (4, 2, 2, -1)):
                if q == 3:
                    self.check_walked(normal_space("quadratic", q, numbers))

    def check_walked(self, space):
        q, n, algebra = space.q, space.n, Clifford(space)
        size = algebra.size
        even = [index for index in range(size) if bin(index).count("1") % 2 == 0]
        pairs = [algebra.unit(index) for index in even if bin(index).count("1") == 2]
        # The differences of both products, for each unit; those of sums are the sums of these.
        known = [[
            algebra.add(algebra.multiply(algebra.unit(index), pair), algebra.negative(
                algebra.multiply(pair, algebra.unit(index))
            )) for pair in pairs
        ] for index in even]
        expected = set()
        for weights in walk(q, len(even)):
            if all(self.is_sum_zero(q, weights, [row[k] for row in known]) for k in range(len(pairs))):
                items = [0] * size
                for index, c in zip(even, weights):
                    items[index] = c
                expected.add(tuple(items))
        found = even_centre(space)
        self.assertTrue(looks_reduced(found))
        self.assertEqual(span_set(q, found, size), expected, told(space))
        for a in list(expected)[:3]:
            for b in Source(256).rows(q, size, 2):
                b = algebra.add(b, algebra.turned(b)) if q % 2 else tuple(
                    c if index in even else 0 for index, c in enumerate(b)
                )
                self.assertEqual(algebra.multiply(a, b), algebra.multiply(b, a))

    def is_sum_zero(self, q, weights, rows):
        for place in range(len(rows[0])):
            total = 0
            for c, row in zip(weights, rows):
                total = PLUS[q][total][TIMES[q][c][row[place]]]
            if total:
                return False
        return True

    def test_dimension_two(self):
        """Sums of a number and a multiple of z, for even dimensions from 2 on without radical."""
        for space in paired(257, 2):
            found = even_centre(space)
            self.assertTrue(looks_reduced(found))
            if space.n == 0:
                self.assertEqual(found, ((1,),))
                continue
            z, _ = pairing(space)
            one = Clifford(space).number(1)
            self.assertEqual(len(found), 2)
            self.assertEqual(span_set(space.q, found, len(z)), span_set(space.q, (one, z), len(z)))

    def test_five_dimensions(self):
        for q in SIZES:
            for space in spaces_of(Source(258), "quadratic", q, 5):
                found = even_centre(space)
                algebra = Clifford(space)
                self.assertTrue(looks_reduced(found))
                self.assertTrue(all(algebra.is_element(a) and algebra.is_even(a) for a in found))
                self.assertEqual(found[0], algebra.number(1))
                for a in found:
                    rows = Source(259).rows(q, 5, 2)
                    b = algebra.product_of(rows)
                    self.assertEqual(algebra.multiply(a, b), algebra.multiply(b, a))
                if q % 2 == 1 and not space.radical():
                    self.assertEqual(len(found), 1)
                if not any(any(row) for row in space.matrix):
                    self.assertEqual(len(found), 16)

    def test_told(self):
        self.assertEqual(even_centre(Space("quadratic", 3, ((1,),))), ((1, 0),))
        self.assertEqual(even_centre(hyperbolic("quadratic", 3, 1)), ((1, 0, 0, 0), (0, 0, 0, 1)))
        self.assertEqual(even_centre(zero_space("quadratic", 2, 0)), ((1,),))


if __name__ == "__main__":
    unittest.main()
