import unittest

from helper import (
    FORMS, MINUS, SIZES, Source, TIMES, disguised, nested, normals, odd_values, slow_add, slow_combine, slow_moved,
    slow_scaled, walk,
)
from maps import (
    drawn_isometry, drawn_spaces, inverse_of, keeps, odd_matrices, outcome, product_of, units, value,
)
from wittspaces.build import hyperbolic, zero_space
from wittspaces.clifford import Clifford
from wittspaces.isometry import Isometry
from wittspaces.space import Space
from words import members, of_word, slow_multiply

QUADRATIC = [form for form in FORMS if form[0] == "quadratic"]


def algebras(seed, most):
    """The algebras of spaces of all normal forms up to a dimension, in drawn bases, each with a source."""
    for space in drawn_spaces(Source(seed), lambda kind, q: most, QUADRATIC):
        yield Clifford(space), Source(seed + space.q + space.n)


class Construction(unittest.TestCase):
    def test_errors_in_order(self):
        for wrong in odd_values() + ["q 3 2: 0 1; 0 0", (), (hyperbolic("quadratic", 3, 1),), [1]]:
            self.assertEqual(outcome(Clifford, wrong), "malformed")
        space = hyperbolic("quadratic", 3, 1)
        self.assertEqual(outcome(Clifford, Isometry(space, units(2))), "malformed")
        self.assertEqual(outcome(Clifford, Clifford(space)), "malformed")
        for kind, q in FORMS:
            for n in range(7):
                expected = "kind" if kind != "quadratic" else "large" if n == 6 else None
                self.assertEqual(outcome(Clifford, zero_space(kind, q, n)), expected)

    def test_fields(self):
        for q in SIZES:
            for n in range(6):
                space = zero_space("quadratic", q, n)
                algebra = Clifford(space)
                self.assertIs(algebra.space, space)
                self.assertEqual(algebra.size, 2 ** n)

    def test_equality(self):
        algebra = Clifford(hyperbolic("quadratic", 3, 1))
        self.assertTrue(algebra == Clifford(hyperbolic("quadratic", 3, 1)))
        self.assertTrue(algebra == algebra)
        for other in (hyperbolic("quadratic", 5, 1), zero_space("quadratic", 3, 2), zero_space("quadratic", 3, 0)):
            self.assertFalse(algebra == Clifford(other))
        for other in odd_values() + [algebra.space, (algebra,), [algebra], algebra.unit(0)]:
            self.assertIs(algebra == other, False)

    def test_is_element(self):
        for algebra, source in algebras(220, 5):
            q, size = algebra.space.q, algebra.size
            right = source.row(q, size)
            self.assertIs(algebra.is_element(right), True)
            wrong = [list(right), right + (0,), right[:-1], right[:-1] + (q,), right[:-1] + (-1,), right[:-1] + (True,)]
            wrong += [right[:-1] + (None,), (right,), "0" * size, (False,) + right[1:], nested(tuple, 60), {}]
            for value_ in wrong + [c for c in odd_values() if size > 1 or c != (0,)]:
                self.assertIs(algebra.is_element(value_), False)

    def test_numbers_rows_and_units(self):
        for algebra, _ in algebras(221, 4):
            space, q, size = algebra.space, algebra.space.q, algebra.size
            for index in range(size):
                self.assertEqual(algebra.unit(index), tuple(int(i == index) for i in range(size)))
            for c in range(q):
                self.assertEqual(algebra.number(c), (c,) + (0,) * (size - 1))
            for x in Source(222).rows(q, space.n, 3):
                expected = [0] * size
                for i, c in enumerate(x):
                    expected[2 ** i] = c
                self.assertEqual(algebra.row(x), tuple(expected))


class Products(unittest.TestCase):
    def test_units_by_the_relations(self):
        for algebra, _ in algebras(223, 3):
            known = {}
            for one in range(algebra.size):
                for two in range(algebra.size):
                    found = of_word(algebra.space, members(one) + members(two), known)
                    expected = tuple(found.get(index, 0) for index in range(algebra.size))
                    self.assertEqual(algebra.multiply(algebra.unit(one), algebra.unit(two)), expected)

    def test_drawn_by_the_relations(self):
        for algebra, source in algebras(224, 5):
            a, b = source.rows(algebra.space.q, algebra.size, 2)
            if algebra.space.n > 4 or source.below(3) == 0:
                # Few items, so that few words are brought to order.
                a = tuple(c if source.below(algebra.size) < 6 else 0 for c in a)
                b = tuple(c if source.below(algebra.size) < 6 else 0 for c in b)
            self.assertEqual(algebra.multiply(a, b), slow_multiply(algebra.space, a, b, {}))

    def test_rows(self):
        """`x x` is the value, `x y + y x` the product."""
        for algebra, source in algebras(225, 5):
            space = algebra.space
            rows = walk(space.q, space.n) if space.q ** space.n <= 9 else source.rows(space.q, space.n, 4)
            for x in rows:
                self.assertEqual(algebra.multiply(algebra.row(x), algebra.row(x)), algebra.number(value(space, x)))
                for y in rows:
                    both = algebra.add(
                        algebra.multiply(algebra.row(x), algebra.row(y)),
                        algebra.multiply(algebra.row(y), algebra.row(x)),
                    )
                    self.assertEqual(both, algebra.number(product_of(space, x, y)))

    def test_associative_and_distributive(self):
        for algebra, source in algebras(226, 5):
            a, b, c = source.rows(algebra.space.q, algebra.size, 3)
            k = source.below(algebra.space.q)
            times, add = algebra.multiply, algebra.add
            self.assertEqual(times(times(a, b), c), times(a, times(b, c)))
            self.assertEqual(times(add(a, b), c), add(times(a, c), times(b, c)))
            self.assertEqual(times(a, add(b, c)), add(times(a, b), times(a, c)))
            self.assertEqual(times(algebra.number(1), a), a)
            self.assertEqual(times(a, algebra.number(1)), a)
            self.assertEqual(times(algebra.number(k), a), algebra.scaled(a, k))
            self.assertEqual(times(a, algebra.number(k)), algebra.scaled(a, k))

    def test_sums_and_multiples(self):
        for algebra, source in algebras(227, 4):
            q = algebra.space.q
            a, b = source.rows(q, algebra.size, 2)
            self.assertEqual(algebra.add(a, b), slow_add(q, a, b))
            self.assertEqual(algebra.negative(a), tuple(MINUS[q][c] for c in a))
            for c in range(q):
                self.assertEqual(algebra.scaled(a, c), slow_scaled(q, a, c))

    def test_product_of(self):
        for algebra, source in algebras(228, 5):
            for k in (0, 1, 2, 3, 6):
                rows = source.rows(algebra.space.q, algebra.space.n, k)
                expected = algebra.number(1)
                for x in rows:
                    expected = algebra.multiply(expected, algebra.row(x))
                self.assertEqual(algebra.product_of(rows), expected)
                self.assertEqual(algebra.product_of(list(rows)), expected)

    def test_told(self):
        algebra = Clifford(hyperbolic("quadratic", 3, 1))
        self.assertEqual(algebra.product_of([(0, 1), (1, 0)]), (1, 0, 0, 2))
        self.assertEqual(algebra.product_of([(1, 0), (0, 1)]), (0, 0, 0, 1))
        self.assertEqual(algebra.product_of([]), (1, 0, 0, 0))
        algebra = Clifford(zero_space("quadratic", 5, 0))
        self.assertEqual((algebra.multiply((2,), (4,)), algebra.row(()), algebra.unit(0)), ((3,), (0,), (1,)))
        algebra = Clifford(Space("quadratic", 4, ((2,),)))
        self.assertEqual(algebra.multiply((0, 1), (0, 2)), (3, 0))


class Parts(unittest.TestCase):
    def test_even_and_turned(self):
        for algebra, source in algebras(229, 5):
            q, size = algebra.space.q, algebra.size
            odd = [index for index in range(size) if len(members(index)) % 2 == 1]
            a, b = source.rows(q, size, 2)
            expected = tuple(MINUS[q][c] if index in odd else c for index, c in enumerate(a))
            self.assertEqual(algebra.turned(a), expected)
            self.assertEqual(algebra.turned(expected), a)
            self.assertIs(algebra.is_even(a), not any(a[index] for index in odd))
            for index in range(size):
                self.assertIs(algebra.is_even(algebra.unit(index)), index not in odd)
            self.assertEqual(
                algebra.turned(algebra.multiply(a, b)), algebra.multiply(algebra.turned(a), algebra.turned(b))
            )
            one, two = [tuple(0 if index in odd else c for index, c in enumerate(c)) for c in (a, b)]
            for even in (one, two, algebra.add(one, two), algebra.multiply(one, two), algebra.number(0)):
                self.assertIs(algebra.is_even(even), True)

    def test_reversed(self):
        for algebra, source in algebras(230, 5):
            q, n = algebra.space.q, algebra.space.n
            a, b = source.rows(q, algebra.size, 2)
            one, two = algebra.reversed_of(a), algebra.reversed_of(b)
            self.assertEqual(algebra.reversed_of(algebra.multiply(a, b)), algebra.multiply(two, one))
            self.assertEqual(algebra.reversed_of(algebra.add(a, b)), algebra.add(one, two))
            self.assertEqual(algebra.reversed_of(one), a)
            rows = source.rows(q, n, 4)
            self.assertEqual(algebra.reversed_of(algebra.product_of(rows)), algebra.product_of(rows[::-1]))
            for x in rows:
                self.assertEqual(algebra.reversed_of(algebra.row(x)), algebra.row(x))
            for c in range(q):
                self.assertEqual(algebra.reversed_of(algebra.number(c)), algebra.number(c))


class Inverses(unittest.TestCase):
    def check_inverse(self, algebra, a):
        found = algebra.inverse(a)
        self.assertTrue(algebra.is_element(found))
        self.assertEqual(algebra.multiply(a, found), algebra.number(1))
        self.assertEqual(algebra.multiply(found, a), algebra.number(1))
        return found

    def test_rows(self):
        for algebra, source in algebras(231, 5):
            space, q = algebra.space, algebra.space.q
            for u in source.rows(q, space.n, 3):
                if value(space, u) == 0:
                    self.assertEqual(outcome(algebra.inverse, algebra.row(u)), "inverse")
                    continue
                back = self.check_inverse(algebra, algebra.row(u))
                factor = inverse_of(q, value(space, u))
                self.assertEqual(back, algebra.row(slow_scaled(q, u, factor)))
                # -u x u^(-1) is the reflection of x.
                x = source.row(q, space.n)
                found = algebra.negative(algebra.multiply(algebra.multiply(algebra.row(u), algebra.row(x)), back))
                less = MINUS[q][TIMES[q][product_of(space, x, u)][factor]]
                self.assertEqual(found, algebra.row(slow_add(q, x, slow_scaled(q, u, less))))

    def test_all_elements_of_small_algebras(self):
        for q, most in ((2, 3), (3, 2), (4, 2), (5, 1), (7, 1), (9, 1)):
            for n in range(most + 1):
                for _, matrix in normals("quadratic", q, n):
                    algebra = Clifford(Space("quadratic", q, disguised(Source(232), "quadratic", q, matrix)))
                    every = walk(q, algebra.size)
                    for a in every[::3 if len(every) > 100 else 1]:
                        if outcome(algebra.inverse, a) is None:
                            self.check_inverse(algebra, a)
                        else:
                            self.assertEqual(outcome(algebra.inverse, a), "inverse")
                            # Nothing takes it to 1: it takes something other than 0 to 0.
                            zeros = [b for b in every if any(b) and not any(algebra.multiply(a, b))]
                            self.assertTrue(zeros)

    def test_drawn_elements(self):
        """Elements that are no products of rows, with and without an inverse."""
        found = {None: 0, "inverse": 0}
        for algebra, source in algebras(233, 5):
            a = source.row(algebra.space.q, algebra.size)
            result = outcome(algebra.inverse, a)
            found[result] += 1
            if result is None:
                self.check_inverse(algebra, a)
            if algebra.space.n:
                # Beside a row of value 0 the number 1 has the inverse 1 less the row.
                for x in source.rows(algebra.space.q, algebra.space.n, 4):
                    if value(algebra.space, x) == 0:
                        b = algebra.add(algebra.number(1), algebra.row(x))
                        expected = algebra.add(algebra.number(1), algebra.negative(algebra.row(x)))
                        self.assertEqual(self.check_inverse(algebra, b), expected)
        self.assertGreater(min(found.values()), 10)

    def test_numbers(self):
        for algebra, _ in algebras(234, 2):
            self.assertEqual(outcome(algebra.inverse, algebra.number(0)), "inverse")
            for c in range(1, algebra.space.q):
                self.assertEqual(self.check_inverse(algebra, algebra.number(c)),
                                 algebra.number(inverse_of(algebra.space.q, c)))


class Images(unittest.TestCase):
    def check_image(self, algebra, matrix, source):
        space, q, n = algebra.space, algebra.space.q, algebra.space.n
        a, b = source.rows(q, algebra.size, 2)
        one, two = algebra.image(matrix, a), algebra.image(matrix, b)
        self.assertTrue(algebra.is_element(one))
        self.assertEqual(algebra.image(matrix, algebra.multiply(a, b)), algebra.multiply(one, two))
        self.assertEqual(algebra.image(matrix, algebra.add(a, b)), algebra.add(one, two))
        self.assertEqual(algebra.image(matrix, algebra.number(q - 1)), algebra.number(q - 1))
        for x in source.rows(q, n, 2):
            self.assertEqual(algebra.image(matrix, algebra.row(x)), algebra.row(slow_moved(q, x, matrix, n)))
        for i in range(n):
            self.assertEqual(algebra.image(matrix, algebra.unit(2 ** i)), algebra.row(matrix[i]))
        self.assertIs(algebra.is_even(algebra.image(matrix, algebra.product_of(source.rows(q, n, 2)))), True)
        self.assertEqual(space, algebra.space)

    def test_isometries(self):
        for algebra, source in algebras(235, 5):
            self.check_image(algebra, drawn_isometry(source, algebra.space), source)
            self.assertEqual(algebra.image(units(algebra.space.n), algebra.unit(0)), algebra.unit(0))

    def test_without_inverse(self):
        """Maps that keep all values and products, but take rows of the singular radical to 0."""
        many = 0
        for algebra, source in algebras(236, 5):
            space, q, n = algebra.space, algebra.space.q, algebra.space.n
            zeros = space.singular_radical()
            if not zeros:
                continue
            for row in zeros[:2]:
                place = row.index(1)
                # Each row less the multiple of a row of the radical that makes 0 at its pivot.
                flat = tuple(slow_add(q, x, slow_scaled(q, row, MINUS[q][x[place]])) for x in units(n))
                self.assertTrue(keeps(space, flat))
                self.assertEqual(outcome(Isometry, space, flat), "isometry")
                self.check_image(algebra, flat, source)
                many += 1
        self.assertGreater(many, 50)

    def test_errors(self):
        for algebra, source in algebras(237, 3):
            space, q, n = algebra.space, algebra.space.q, algebra.space.n
            a = source.row(q, algebra.size)
            for matrix in odd_matrices(q, n) + [space, algebra, a + (0,)]:
                self.assertEqual(outcome(algebra.image, matrix, a), "malformed")
            for _ in range(6):
                matrix = source.rows(q, n, n)
                expected = None if keeps(space, matrix) else "isometry"
                self.assertEqual(outcome(algebra.image, matrix, a), expected)
                if expected is None:
                    self.assertEqual(
                        algebra.image(matrix, a), slow_image(algebra, matrix, a)
                    )


def slow_image(algebra, matrix, a):
    """The sum of the products of the rows of the matrix, item by item."""
    found = [algebra.product_of([matrix[i] for i in members(index)]) for index in range(algebra.size)]
    return slow_combine(algebra.space.q, found, a, algebra.size)


if __name__ == "__main__":
    unittest.main()
