import unittest

from helper import (
    FORMS, KINDS, MINUS, MIRROR, PLUS, SIZES, Source, TIMES, independent, most_dimension, odd_values, pulled, samples,
    slow_combine, slow_product, slow_value, some_invertible, walk,
)
from wittspaces.build import (
    changed, complement, core, direct_sum, hyperbolic, of_matrix, restricted, scaled, zero_space,
)
from wittspaces.errors import Malformed, Refused
from wittspaces.space import Space


def spaces(seed, most_rows, each=1):
    for kind, q in FORMS:
        source = Source(seed + q)
        for _, matrix in samples(source, kind, q, most_dimension(q, most_rows), each):
            yield source, Space(kind, q, matrix)


def are_rows(space, value):
    """True for a list or tuple of rows of the space, by the words of point 1.4."""
    return isinstance(value, (list, tuple)) and all(
        type(row) is tuple and len(row) == space.n and all(type(c) is int and 0 <= c < space.q for c in row)
        for row in value
    )


class Checks(unittest.TestCase):
    def check_refused(self, function, *arguments):
        with self.assertRaises(Refused) as caught:
            function(*arguments)
        self.assertEqual(caught.exception.reason, "large")

    def check_malformed(self, function, *arguments):
        with self.assertRaises(Malformed):
            function(*arguments)


class FromNumbers(Checks):
    def test_hyperbolic(self):
        for kind, q in FORMS:
            for m in range(4):
                space = hyperbolic(kind, q, m)
                self.assertEqual((space.kind, space.q, space.n), (kind, q, 2 * m))
                units = [space.unit(i) for i in range(2 * m)]
                for i, x in enumerate(units):
                    self.assertEqual(space.value(x), 0)
                    for j, y in enumerate(units[i:], start=i):
                        self.assertEqual(space.product(x, y), int(i % 2 == 0 and j == i + 1))
        told = hyperbolic("quadratic", 5, 2)
        for x in [(1, 2, 3, 4), (4, 4, 0, 1), (2, 3, 1, 1)]:
            self.assertEqual(told.value(x), (x[0] * x[1] + x[2] * x[3]) % 5)

    def test_zero_space(self):
        for kind, q in FORMS:
            for n in range(7):
                self.assertEqual(zero_space(kind, q, n), Space(kind, q, [[0] * n] * n))

    def test_malformed_comes_first(self):
        for function in (hyperbolic, zero_space):
            for big in (1, 7, 10 ** 30):
                for kind in odd_values() + ["h", "hermitean"]:
                    if kind != "quadratic":
                        self.check_malformed(function, kind, 4, big)
                for kind in KINDS:
                    for q in odd_values() + [0, 1, 6, 8]:
                        self.check_malformed(function, kind, q, big)
                for q in (2, 3, 5, 7):
                    self.check_malformed(function, "hermitian", q, big)
            for kind, q in FORMS:
                for count in odd_values():
                    if count != 10 ** 40:
                        self.check_malformed(function, kind, q, count)

    def test_large(self):
        for kind, q in FORMS:
            for m in (4, 5, 100, 10 ** 40):
                self.check_refused(hyperbolic, kind, q, m)
            for n in (7, 8, 100, 10 ** 40):
                self.check_refused(zero_space, kind, q, n)

    def test_of_matrix(self):
        source = Source(50)
        for q in SIZES:
            for n in range(7):
                matrix = source.rows(q, n, n)
                space = of_matrix(q, [list(row) for row in matrix])
                self.assertEqual(space, of_matrix(q, matrix))
                self.assertEqual((space.kind, space.q, space.n), ("quadratic", q, n))
                for i in range(n):
                    self.assertEqual(space.matrix[i][i], matrix[i][i])
                    for j in range(i + 1, n):
                        self.assertEqual(space.matrix[i][j], PLUS[q][matrix[i][j]][matrix[j][i]])
                for x in source.rows(q, n, 20):
                    self.assertEqual(space.value(x), slow_value("quadratic", q, matrix, x))

    def test_of_matrix_errors(self):
        for q in odd_values() + [0, 1, 6]:
            self.check_malformed(of_matrix, q, [[0] * 7] * 7)
        for q in SIZES:
            for matrix in odd_values():
                if matrix not in ([], [[0]], ([0],), [(0,)]):
                    self.check_malformed(of_matrix, q, matrix)
            for matrix in ([[0, 0]], [[0], [0]], [[q]], [[0] * 7] * 6, [[0] * 7] * 6 + [[0] * 6 + [q]], [[0] * 7, 0]):
                self.check_malformed(of_matrix, q, matrix)
            for n in (7, 9):
                self.check_refused(of_matrix, q, [[1] * n] * n)


class FromSpaces(Checks):
    def test_direct_sum(self):
        for kind, q in FORMS:
            source = Source(51 + q)
            parts = [Space(kind, q, matrix) for _, matrix in samples(source, kind, q, 3)]
            for a, b in [(a, b) for a in parts for b in parts][::5]:
                both = direct_sum(a, b)
                self.assertEqual((both.kind, both.q, both.n), (kind, q, a.n + b.n))
                for _ in range(4):
                    x, y = source.row(q, a.n), source.row(q, b.n)
                    v, w = source.row(q, a.n), source.row(q, b.n)
                    self.assertEqual(both.value(x + y), PLUS[q][a.value(x)][b.value(y)])
                    expected = PLUS[q][a.product(x, v)][b.product(y, w)]
                    self.assertEqual(both.product(x + y, v + w), expected)
                    self.assertEqual(both.product(x + b.zero(), a.zero() + w), 0)

    def test_direct_sum_errors(self):
        for kind, q in FORMS:
            for other_kind, other_q in FORMS:
                a, b = zero_space(kind, q, 4), zero_space(other_kind, other_q, 3)
                if (kind, q) == (other_kind, other_q):
                    self.check_refused(direct_sum, a, b)
                    self.assertEqual(direct_sum(b, b).n, 6)
                else:
                    self.check_malformed(direct_sum, a, b)

    def test_scaled(self):
        for source, space in spaces(52, 750):
            q = space.q
            for c in range(q):
                if space.kind == "hermitian" and MIRROR[q][c] != c:
                    self.check_malformed(scaled, space, c)
                    continue
                found = scaled(space, c)
                self.assertEqual((found.kind, found.q, found.n), (space.kind, q, space.n))
                for x, y in [source.rows(q, space.n, 2) for _ in range(5)]:
                    self.assertEqual(found.value(x), TIMES[q][c][space.value(x)])
                    self.assertEqual(found.product(x, y), TIMES[q][c][space.product(x, y)])
            self.assertEqual(scaled(space, 1), space)

    def test_scaled_errors(self):
        for kind, q in FORMS:
            for c in odd_values() + [q, q + 1]:
                self.check_malformed(scaled, hyperbolic(kind, q, 1), c)


class Restricted(Checks):
    def test_values_and_products(self):
        for source, space in spaces(53, 750):
            q = space.q
            for k in range(7):
                rows = source.rows(q, space.n, k)
                found = restricted(space, rows)
                self.assertEqual(found, restricted(space, list(rows)))
                self.assertEqual((found.kind, found.q, found.n), (space.kind, q, k))
                self.assertEqual(found.matrix, pulled(space.kind, q, space.matrix, rows))
                for x, y in [source.rows(q, k, 2) for _ in range(3)]:
                    v, w = slow_combine(q, rows, x, space.n), slow_combine(q, rows, y, space.n)
                    self.assertEqual(found.value(x), space.value(v))
                    self.assertEqual(found.product(x, y), space.product(v, w))

    def test_dependent_rows(self):
        for _, space in spaces(54, 100):
            for x in space.rows()[:30]:
                found = restricted(space, (x, x, space.zero(), x))
                self.assertEqual(found.value((1, 0, 1, 0)), space.value(x))
                self.assertEqual(found.product((1, 0, 0, 0), (0, 1, 0, 0)), space.product(x, x))

    def test_errors(self):
        for _, space in spaces(55, 100):
            zero = space.zero()
            others = [(zero, (*zero, 0)), (zero, list(zero)), (*[zero] * 6, (*zero, 0)), {}, "ab", zero]
            for value in odd_values() + others:
                if are_rows(space, value):
                    self.assertEqual(restricted(space, value).n, len(value))
                else:
                    self.check_malformed(restricted, space, value)
            for many in (7, 8, 20):
                self.check_refused(restricted, space, (zero,) * many)
                self.check_refused(restricted, space, [zero] * many)
                self.check_malformed(restricted, space, (zero,) * many + ((*zero, 0),))
            self.assertEqual(restricted(space, []).n, 0)

    def test_changed(self):
        for source, space in spaces(56, 750):
            rows = some_invertible(source, space.q, space.n)
            expected = pulled(space.kind, space.q, space.matrix, rows)
            self.assertEqual(changed(space, rows).matrix, expected)
            self.assertEqual(changed(space, list(rows)), changed(space, rows))
            self.assertEqual(changed(space, [space.unit(i) for i in range(space.n)]), space)

    def test_changed_errors(self):
        wrong = 0
        for source, space in spaces(57, 750):
            rows = some_invertible(source, space.q, space.n)
            zero = space.zero()
            values = [(*rows, zero), rows + rows[:1], rows[1:], rows[:-1] + (zero,), (zero,) * 7, [zero] * 8, ()]
            values += [(*rows[1:], *rows[1:2]), rows[:-1] + ((*zero, 0),), rows[:-1] + (list(zero),), None, zero]
            combined = slow_combine(space.q, rows[1:], source.row(space.q, len(rows[1:])), space.n)
            values += [(combined, *rows[1:]), rows, list(rows)]
            for value in values + odd_values():
                if are_rows(space, value) and len(value) == space.n and independent(space.q, value, space.n):
                    self.assertEqual(changed(space, value), restricted(space, value))
                else:
                    wrong += 1
                    self.check_malformed(changed, space, value)
        self.assertGreater(wrong, 1000)


class Cores(unittest.TestCase):
    def test_complement_and_core(self):
        for _, space in spaces(58, 750, 2):
            pivots = [row.index(1) for row in space.radical()]
            rows = tuple(space.unit(i) for i in range(space.n) if i not in pivots)
            self.assertEqual(complement(space), rows)
            found = core(space)
            self.assertEqual(found.matrix, pulled(space.kind, space.q, space.matrix, rows))
            self.assertEqual(found.radical(), ())
            self.assertTrue(independent(space.q, (*rows, *space.radical()), space.n))
            self.assertEqual(len(rows) + len(space.radical()), space.n)

    def test_values_split(self):
        for source, space in spaces(59, 100):
            q, n = space.q, space.n
            rows, radical = complement(space), space.radical()
            for _ in range(6):
                w = slow_combine(q, rows, source.row(q, len(rows)), n)
                r = slow_combine(q, radical, source.row(q, len(radical)), n)
                both = tuple(PLUS[q][a][b] for a, b in zip(w, r))
                self.assertEqual(space.value(both), PLUS[q][space.value(w)][space.value(r)])

    def test_document_examples(self):
        self.assertEqual(str(hyperbolic("alternating", 3, 1)), "a 3 2: 0 1; 2 0")
        self.assertEqual(str(hyperbolic("quadratic", 3, 1)), "q 3 2: 0 1; 0 0")
        self.assertEqual(str(hyperbolic("hermitian", 4, 1)), "h 4 2: 0 1; 1 0")
        self.assertEqual(MINUS[3][1], 2)
        space = hyperbolic("quadratic", 2, 1)
        self.assertEqual([slow_product("quadratic", 2, space.matrix, x, (1, 1)) for x in walk(2, 2)], [0, 1, 1, 0])

    def test_nothing_changes(self):
        for source, space in spaces(60, 30):
            text = str(space)
            rows = [source.row(space.q, space.n) for _ in range(3)]
            kept = list(rows)
            results = [str(restricted(space, rows)), str(core(space)), str(scaled(space, 1))]
            self.assertEqual([str(restricted(space, rows)), str(core(space)), str(scaled(space, 1))], results)
            self.assertEqual((rows, str(space)), (kept, text))


if __name__ == "__main__":
    unittest.main()
