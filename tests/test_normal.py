import unittest
from itertools import product

from helper import (
    FORMS, KINDS, SIZES, Source, TIMES, all_matrices, disguised, independent, most_dimension, normals, odd_values,
    pulled, samples, slow_determinant, slow_product, slow_value, span_set, table_of, walk,
)
from wittspaces.errors import Malformed, Refused
from wittspaces.normal import (
    discriminant, invariants, is_normal, normal_form, normal_space, orthogonal_basis, pairs_basis, sign,
)
from wittspaces.space import Space


def spaces(seed, most, each=1):
    """All kinds and fields, each normal form up to the dimension `most`, in other bases."""
    for kind, q in FORMS:
        for numbers, matrix in samples(Source(seed + q), kind, q, most, each):
            yield numbers, Space(kind, q, matrix)


def has_pairs(kind, q):
    return kind == "alternating" or (kind == "quadratic" and q % 2 == 0)


class Checks(unittest.TestCase):
    def check_refused(self, reason, function, *arguments):
        with self.assertRaises(Refused) as caught:
            function(*arguments)
        self.assertEqual(caught.exception.reason, reason)

    def check_basis(self, space, rows):
        self.assertIs(type(rows), tuple)
        self.assertTrue(all(space.is_row(row) for row in rows))
        self.assertEqual(len(rows), space.n)
        self.assertNotEqual(slow_determinant(space.q, rows), 0)

    def check_radical(self, space, rows):
        """The rows, as many as the radical has dimensions, span it."""
        self.assertEqual(len(rows), len(space.radical()))
        units = [space.unit(i) for i in range(space.n)]
        told = (space.kind, space.q, space.matrix)
        self.assertFalse(any(slow_product(*told, x, y) for x in rows for y in units))


class NormalSpaces(Checks):
    def test_all_normal_spaces(self):
        for kind, q in FORMS:
            for n in range(7):
                found = normals(kind, q, n)
                self.assertEqual(len(dict(found)), len(found))
                for numbers, matrix in found:
                    self.assertEqual(normal_space(kind, q, numbers), Space(kind, q, matrix))

    def test_told_matrices(self):
        for kind, q, numbers, matrix in (
            ("alternating", 5, (3, 1, 1, 0), ((0, 1, 0), (4, 0, 0), (0, 0, 0))),
            ("hermitian", 9, (2, 1, 1, 0), ((1, 0), (0, 0))),
            ("quadratic", 7, (2, 0, 0, -1), ((1, 0), (0, 3))),
            ("quadratic", 9, (1, 0, 0, -1), ((4,),)),
            ("quadratic", 2, (2, 0, 0, -1), ((1, 1), (0, 1))),
            ("quadratic", 4, (2, 0, 0, -1), ((1, 1), (0, 2))),
            ("quadratic", 4, (3, 1, 0, 0), ((0, 1, 0), (0, 0, 0), (0, 0, 1))),
            ("quadratic", 2, (2, 2, 1, 0), ((1, 0), (0, 0))),
        ):
            self.assertEqual(normal_space(kind, q, numbers).matrix, matrix)

    def test_every_tuple(self):
        """Tuples up to the dimension 8: the right ones up to 6 give spaces, those above are too large."""
        for kind, q in FORMS:
            right = {numbers for n in range(9) for numbers, _ in normals(kind, q, n)}
            for n, r, s in product(range(-1, 9), repeat=3):
                for mark in (-2, -1, 0, 1, 2):
                    numbers = (n, r, s, mark)
                    if numbers not in right:
                        with self.assertRaises(Malformed, msg=(kind, q, numbers)):
                            normal_space(kind, q, numbers)
                    elif n > 6:
                        self.check_refused("large", normal_space, kind, q, numbers)
                    else:
                        self.assertEqual(normal_space(kind, q, numbers).n, n)

    def test_huge_numbers(self):
        k = 10 ** 40
        for kind, q in FORMS:
            mark = 1 if kind == "quadratic" else 0
            for numbers in ((k, k, k, mark), (k, 0, 0, mark), (k, 7, 7, mark)):
                if kind == "hermitian" or numbers[1] != 7 or not has_pairs(kind, q):
                    self.check_refused("large", normal_space, kind, q, numbers)
            for numbers in ((k, k, k - 2, mark), (-k, -k, -k, mark), (3, k, k, mark), (k, 0, 0, k), (k, k, k, -1)):
                with self.assertRaises(Malformed):
                    normal_space(kind, q, numbers)
        self.check_refused("large", normal_space, "quadratic", 2, (k + 1, k + 1, k, 0))

    def test_malformed(self):
        zeros = {"alternating": (0, 0, 0, 0), "hermitian": (0, 0, 0, 0), "quadratic": (0, 0, 0, 1)}
        for kind, q in FORMS:
            right = zeros[kind]
            self.assertEqual(normal_space(kind, q, right).n, 0)
            changed = [list(right), right[:3], (*right, 0), (False, 0, 0, right[3]), (*right[:3], True), "0000"]
            changed += [(None, 0, 0, right[3]), (*right[:2], "0", right[3]), ((0,), 0, 0, right[3]), ()]
            for value in odd_values() + changed:
                with self.assertRaises(Malformed):
                    normal_space(kind, q, value)
        for kind in odd_values() + ["q"]:
            for numbers in ((0, 0, 0, 0), (0, 0, 0, 1), (8, 8, 8, 0), (8, 8, 8, 1)):
                if kind != "quadratic":
                    with self.assertRaises(Malformed):
                        normal_space(kind, 4, numbers)
        for kind in KINDS:
            for q in odd_values() + [0, 1, 6, 8] + ([2, 3, 5, 7] if kind == "hermitian" else []):
                for numbers in (zeros[kind], (8, 8, 8, zeros[kind][3])):
                    with self.assertRaises(Malformed):
                        normal_space(kind, q, numbers)

    def test_is_normal(self):
        for kind, q in FORMS:
            for n in range(4):
                right = {matrix for _, matrix in normals(kind, q, n)}
                every = all_matrices(kind, q, n) if q ** (n * (n + 1) // 2) <= 800 else []
                source = Source(70 + q)
                for matrix in [*every, *right, *[disguised(source, kind, q, m) for m in right]]:
                    self.assertIs(is_normal(Space(kind, q, matrix)), matrix in right, (kind, q, matrix))


class NormalForms(Checks):
    def test_invariants(self):
        for numbers, space in spaces(71, 4, 4):
            self.assertEqual(invariants(space), numbers)
            self.assertIs(type(invariants(space)), tuple)

    def test_invariants_of_six_dimensions(self):
        for kind, q in FORMS:
            for n in (5, 6):
                for numbers, matrix in normals(kind, q, n):
                    space = Space(kind, q, disguised(Source(72), kind, q, matrix))
                    self.assertEqual(invariants(space), numbers)
                    self.check_normal_form(numbers, space)

    def test_invariants_of_normal_spaces(self):
        for kind, q in FORMS:
            for n in range(7):
                for numbers, matrix in normals(kind, q, n):
                    self.assertEqual(invariants(Space(kind, q, matrix)), numbers)

    def check_normal_form(self, numbers, space):
        normal, rows = normal_form(space)
        self.check_basis(space, rows)
        expected = dict(normals(space.kind, space.q, space.n))[numbers]
        self.assertEqual(normal, Space(space.kind, space.q, expected))
        self.assertEqual(pulled(space.kind, space.q, space.matrix, rows), expected)

    def test_normal_form(self):
        """One normal space for a space in several bases, which the space restricted to the basis is."""
        for numbers, space in spaces(73, 4, 5):
            self.check_normal_form(numbers, space)

    def test_normal_form_of_all_small_spaces(self):
        for kind, q in FORMS:
            for n in range(4):
                if q ** (n * (n + 1) // 2) <= 800:
                    right = {matrix: numbers for numbers, matrix in normals(kind, q, n)}
                    for matrix in all_matrices(kind, q, n):
                        space = Space(kind, q, matrix)
                        self.check_normal_form(right[normal_form(space)[0].matrix], space)

    def test_document_examples(self):
        self.assertEqual(str(normal_form(Space("quadratic", 3, ((2, 0), (0, 2))))[0]), "q 3 2: 1 0; 0 1")
        self.assertEqual(invariants(Space("quadratic", 2, ((1, 0), (0, 1)))), (2, 2, 1, 0))

    def test_nothing_changes(self):
        for numbers, space in spaces(74, 3):
            text = str(space)
            first = normal_form(space)
            self.assertEqual(invariants(space), numbers)
            self.assertEqual(normal_form(Space(space.kind, space.q, space.matrix)), first)
            self.assertEqual(str(space), text)


class Bases(Checks):
    def test_orthogonal_basis(self):
        for _, space in spaces(75, 4, 3):
            if has_pairs(space.kind, space.q):
                self.check_refused("kind", orthogonal_basis, space)
                continue
            rows = orthogonal_basis(space)
            self.check_basis(space, rows)
            told = (space.kind, space.q, space.matrix)
            self.assertFalse(any(slow_product(*told, x, y) for i, x in enumerate(rows) for y in rows[:i]))
            self.check_radical(space, rows[space.n - len(space.radical()):])

    def test_pairs_basis(self):
        for _, space in spaces(76, 5, 3):
            if not has_pairs(space.kind, space.q):
                self.check_refused("kind", pairs_basis, space)
                continue
            pairs, zeros = pairs_basis(space)
            self.assertIs(type(pairs), tuple)
            self.assertIs(type(zeros), tuple)
            self.assertTrue(all(type(pair) is tuple and len(pair) == 2 for pair in pairs))
            rows = tuple(row for pair in pairs for row in pair) + zeros
            self.check_basis(space, rows)
            self.check_radical(space, zeros)
            told = (space.kind, space.q, space.matrix)
            for i, x in enumerate(rows):
                for j in range(i + 1, len(rows)):
                    expected = int(i % 2 == 0 and j == i + 1 and j < 2 * len(pairs))
                    self.assertEqual(slow_product(*told, x, rows[j]), expected)

    def test_spaces_with_zero_diagonals(self):
        """No unit row has a value other than 0, so sums must be taken."""
        for kind, q in (("quadratic", 3), ("quadratic", 9), ("hermitian", 4), ("hermitian", 9)):
            for c in range(1, q):
                back = {"quadratic": 0, "hermitian": Space(kind, q, ()).field.mirrored(c)}[kind]
                space = Space(kind, q, ((0, c), (back, 0)))
                rows = orthogonal_basis(space)
                self.assertEqual(slow_product(kind, q, space.matrix, *rows), 0)
                self.assertTrue(all(slow_value(kind, q, space.matrix, row) for row in rows))
                self.assertTrue(is_normal(normal_form(space)[0]))


class Signs(Checks):
    def test_discriminant(self):
        for (n, r, s, mark), space in spaces(77, 4, 2):
            if space.kind != "quadratic":
                self.check_refused("kind", discriminant, space)
            elif space.q % 2 == 0:
                self.check_refused("two", discriminant, space)
            else:
                least = {3: 2, 5: 2, 7: 3, 9: 4}[space.q]
                self.assertEqual(discriminant(space), least if mark == -1 else 1)

    def test_discriminant_by_determinants(self):
        """That of the products of any basis of a complement of the radical differs by a square and by powers of 2."""
        for _, space in spaces(78, 3, 3):
            if space.kind == "quadratic" and space.q % 2 and not space.radical():
                q = space.q
                gram = [[slow_product("quadratic", q, space.matrix, x, y) for y in self.units(space)]
                        for x in self.units(space)]
                squares = {TIMES[q][x][x] for x in range(q)}
                number = TIMES[q][slow_determinant(q, gram)][discriminant(space)]
                for _ in range(space.n):
                    number = TIMES[q][number][2]
                self.assertIn(number, squares)

    @staticmethod
    def units(space):
        return [space.unit(i) for i in range(space.n)]

    def test_sign_by_counting(self):
        signs = set()
        for q in SIZES:
            for (n, r, s, _), matrix in samples(Source(79 + q), "quadratic", q, most_dimension(q, 2500), 2):
                space = Space("quadratic", q, matrix)
                if (n - r) % 2 or r > s:
                    self.check_refused("even", sign, space)
                    continue
                m = (n - r) // 2
                zeros = sum(space.value(x) == 0 for x in walk(q, n))
                found = sign(space)
                signs.add((q, found))
                if m == 0:
                    self.assertEqual(found, 1)
                else:
                    step = found * (q ** m - q ** (m - 1))
                    self.assertEqual(zeros, q ** s * (q ** (2 * m - 1) + step))
        self.assertEqual(signs, {(q, e) for q in SIZES for e in (1, -1)})

    def test_sign_of_told_planes(self):
        for q, minus in ((3, True), (7, True), (5, False), (9, False)):
            # x x + y y has a row with the value 0 exactly if -1 is a square.
            self.assertEqual(sign(Space("quadratic", q, ((1, 0), (0, 1)))), -1 if minus else 1)
        for q in SIZES:
            for m in range(4):
                matrix = dict(normals("quadratic", q, 2 * m)) if q % 2 == 0 else None
                plane = [[int(i % 2 == 0 and j == i + 1) for j in range(2 * m)] for i in range(2 * m)]
                self.assertEqual(sign(Space("quadratic", q, plane)), 1)
                if matrix and m:
                    self.assertEqual(sign(Space("quadratic", q, matrix[2 * m, 0, 0, -1])), -1)

    def test_sign_kinds(self):
        for _, space in spaces(80, 3):
            if space.kind != "quadratic":
                self.check_refused("kind", sign, space)

    def test_sign_of_larger_spaces(self):
        for q in SIZES:
            for (n, r, s, mark), matrix in normals("quadratic", q, 6):
                space = Space("quadratic", q, disguised(Source(81), "quadratic", q, matrix))
                if (n - r) % 2 or r > s:
                    self.check_refused("even", sign, space)
                elif q % 2 == 0:
                    self.assertEqual(sign(space), mark)
                else:
                    turned = q in (3, 7) and (n - r) // 2 % 2 == 1
                    self.assertEqual(sign(space), -mark if turned else mark)


class Helpers(unittest.TestCase):
    def test_all_forms_have_one_normal_form(self):
        """The normal matrices of the tests are unlike under all changes of basis, for small spaces."""
        for kind, q, n in (("quadratic", 2, 2), ("quadratic", 3, 2), ("hermitian", 4, 2), ("alternating", 3, 2)):
            counts = set()
            for _, matrix in normals(kind, q, n):
                rows = walk(q, n)
                zeros = {x for x in rows if slow_value(kind, q, matrix, x) == 0}
                radical = {x for x in rows if not any(slow_product(kind, q, matrix, x, y) for y in rows)}
                ones = sum(slow_value(kind, q, matrix, x) == 1 for x in rows)
                counts.add((len(zeros), len(radical), ones))
                self.assertEqual(span_set(q, table_of(q, radical, n), n), radical)
            self.assertEqual(len(counts), len(normals(kind, q, n)))
        self.assertTrue(independent(3, ((1, 2), (0, 1)), 2))


if __name__ == "__main__":
    unittest.main()
