import unittest

from helper import (
    FORMS, KINDS, MINUS, PLUS, SIZES, Source, all_matrices, independent, most_dimension, normals, odd_values, pulled,
    samples, slow_add, slow_combine, slow_product, slow_scaled, slow_value, some_invertible, span_set, table_of, walk,
)
from wittspaces.errors import Malformed, NoText, Refused
from wittspaces.field import Field
from wittspaces.linear import span
from wittspaces.space import Space, read_space


def spaces(seed, most_rows, each=1):
    """All kinds and fields, each normal form up to a dimension, in other bases."""
    for kind, q in FORMS:
        source = Source(seed + q)
        for numbers, matrix in samples(source, kind, q, most_dimension(q, most_rows), each):
            yield source, numbers, Space(kind, q, matrix)


class Making(unittest.TestCase):
    def test_fields(self):
        space = Space("quadratic", 9, [[1, 8], (0, 2)])
        self.assertEqual((space.kind, space.q, space.n, space.matrix), ("quadratic", 9, 2, ((1, 8), (0, 2))))
        self.assertEqual(space.field, Field(9))
        self.assertIs(type(space.matrix), tuple)
        self.assertTrue(all(type(row) is tuple for row in space.matrix))

    def test_right_matrices(self):
        for kind, q in FORMS:
            for n in range(3):
                if q ** (n * n) <= 7000:
                    self.check_all_matrices(kind, q, n)

    def check_all_matrices(self, kind, q, n):
        """Every square matrix is taken exactly if it has the form of point 2.1."""
        right = set(all_matrices(kind, q, n))
        rows = walk(q, n)
        for matrix in [tuple(rows[i] for i in at) for at in walk(len(rows), n)]:
            if matrix in right:
                self.assertEqual(Space(kind, q, matrix).matrix, matrix)
            else:
                with self.assertRaises(Malformed):
                    Space(kind, q, matrix)

    def test_malformed_kinds_and_sizes(self):
        for kind in odd_values() + ["a", "Quadratic", "alternating ", ("quadratic",), 2]:
            if kind != "quadratic":
                with self.assertRaises(Malformed):
                    Space(kind, 4, ((0,),))
        for kind in KINDS:
            for q in odd_values() + [0, 1, 6, 8, 10, 11, 16, "3"]:
                with self.assertRaises(Malformed):
                    Space(kind, q, ((0,),))
        for q in (2, 3, 5, 7):
            for matrix in ((), ((0,),), ((1,),)):
                with self.assertRaises(Malformed):
                    Space("hermitian", q, matrix)

    def test_malformed_matrices(self):
        for kind, q in FORMS:
            for value in odd_values():
                if value not in ([], [[0]], ([0],), [(0,)]):
                    with self.assertRaises(Malformed):
                        Space(kind, q, value)
            for value in [((0, 0),), ((0,), (0,)), ((0, 0), (0,)), ((), ()), ((q,),), ((-1,),), ((False,),), "0", ("0",)]:
                with self.assertRaises(Malformed):
                    Space(kind, q, value)
            self.assertEqual(Space(kind, q, []).matrix, ())
            self.assertEqual(Space(kind, q, [[0]]).matrix, ((0,),))

    def test_large(self):
        for kind, q in FORMS:
            self.assertEqual(Space(kind, q, [[0] * 6] * 6).n, 6)
            for n in (7, 8, 20):
                with self.assertRaises(Refused) as caught:
                    Space(kind, q, [[0] * n] * n)
                self.assertEqual(caught.exception.reason, "large")
                wrong = [[0] * n for _ in range(n)]
                wrong[n - 1][0] = 1
                for matrix in (wrong, [[0] * n] * (n - 1), [[0] * n] * (n - 1) + [[0] * (n - 1) + [q]]):
                    with self.assertRaises(Malformed):
                        Space(kind, q, matrix)
            with self.assertRaises(Malformed):
                Space("x", q, [[0] * 7] * 7)
            with self.assertRaises(Malformed):
                Space(kind, 6, [[0] * 7] * 7)

    def test_equality(self):
        every = [
            Space(kind, q, matrix) for kind, q in FORMS for n in range(2) for matrix in all_matrices(kind, q, n)
        ]
        for one in every:
            for other in every:
                same = (one.kind, one.q, one.matrix) == (other.kind, other.q, other.matrix)
                self.assertIs(one == other, same)
            for value in odd_values() + [one.matrix, str(one), (one,)]:
                self.assertIs(one == value, False)
        self.assertTrue(Space("quadratic", 3, [[1, 2], [0, 1]]) == Space("quadratic", 3, ((1, 2), (0, 1))))


class Values(unittest.TestCase):
    def test_values_and_products(self):
        for source, _, space in spaces(30, 750):
            told = (space.kind, space.q, space.matrix)
            rows = walk(space.q, space.n)
            self.assertEqual([space.value(x) for x in rows], [slow_value(*told, x) for x in rows])
            pairs = [(x, y) for x in rows for y in rows]
            if len(rows) > 16:
                pairs = [(rows[source.below(len(rows))], rows[source.below(len(rows))]) for _ in range(60)]
            for x, y in pairs:
                self.assertEqual(space.product(x, y), slow_product(*told, x, y))

    def test_six_dimensions(self):
        for kind, q in FORMS:
            source = Source(31)
            for _, matrix in normals(kind, q, 6)[-3:]:
                matrix = pulled(kind, q, matrix, some_invertible(source, q, 6))
                space = Space(kind, q, matrix)
                for x, y in zip(source.rows(q, 6, 12), source.rows(q, 6, 12)):
                    self.assertEqual(space.value(x), slow_value(kind, q, matrix, x))
                    self.assertEqual(space.product(x, y), slow_product(kind, q, matrix, x, y))

    def test_sums(self):
        for source, _, space in spaces(32, 10 ** 4):
            q, n = space.q, space.n
            for x, y, z in [source.rows(q, n, 3) for _ in range(8)]:
                c = source.below(q)
                self.assertEqual(
                    space.product(slow_add(q, slow_scaled(q, x, c), y), z),
                    PLUS[q][space.field.multiply(c, space.product(x, z))][space.product(y, z)],
                )
                turned = space.product(y, x)
                if space.kind == "alternating":
                    turned = MINUS[q][turned]
                if space.kind == "hermitian":
                    turned = space.field.mirrored(turned)
                self.assertEqual(space.product(x, y), turned)
                if space.kind == "quadratic":
                    both = PLUS[q][space.value(x)][space.value(y)]
                    self.assertEqual(space.value(slow_add(q, x, y)), PLUS[q][both][space.product(x, y)])
                if space.kind == "hermitian":
                    self.assertTrue(space.field.is_fixed(space.value(x)))

    def test_gram(self):
        for _, _, space in spaces(33, 10 ** 4):
            units = [space.unit(i) for i in range(space.n)]
            told = (space.kind, space.q, space.matrix)
            self.assertEqual(space.gram(), tuple(tuple(slow_product(*told, x, y) for y in units) for x in units))

    def test_rows(self):
        for _, _, space in spaces(34, 3000):
            self.assertEqual(space.rows(), tuple(walk(space.q, space.n)))
            self.assertEqual(space.zero(), (0,) * space.n)
            for i in range(space.n):
                self.assertEqual(space.unit(i), tuple(int(j == i) for j in range(space.n)))

    def test_is_row(self):
        for _, _, space in spaces(35, 90):
            for x in space.rows():
                self.assertIs(space.is_row(x), True)
                self.assertIs(space.is_row(list(x)), False)
                self.assertIs(space.is_row((*x, 0)), False)
                if x:
                    self.assertIs(space.is_row((*x[:-1], True)), False)
                    self.assertIs(space.is_row((*x[:-1], space.q)), False)
            for value in odd_values():
                self.assertIs(space.is_row(value), False)


class Subspaces(unittest.TestCase):
    def test_radicals(self):
        for _, (_, r, s, _), space in spaces(36, 750, 2):
            told = (space.kind, space.q, space.matrix)
            rows = walk(space.q, space.n)
            units = [space.unit(i) for i in range(space.n)]
            others = rows if len(rows) <= 90 else units
            radical = {x for x in rows if not any(slow_product(*told, x, y) for y in others)}
            singular = {x for x in radical if slow_value(*told, x) == 0}
            self.assertEqual(space.radical(), table_of(space.q, radical, space.n))
            self.assertEqual(space.singular_radical(), table_of(space.q, singular, space.n))
            self.assertEqual((len(space.radical()), len(space.singular_radical())), (r, s))

    def test_radicals_of_six_dimensions(self):
        for kind, q in FORMS:
            for (n, r, s, _), matrix in normals(kind, q, 6):
                space = Space(kind, q, pulled(kind, q, matrix, some_invertible(Source(37), q, 6)))
                radical, singular = space.radical(), space.singular_radical()
                self.assertEqual((len(radical), len(singular)), (r, s))
                units = [space.unit(i) for i in range(6)]
                self.assertFalse(any(slow_product(kind, q, space.matrix, x, y) for x in radical for y in units))
                self.assertFalse(any(slow_value(kind, q, space.matrix, x) for x in singular))
                self.assertEqual(span(space.field, (*radical, *singular), 6), radical)

    def test_perp(self):
        for source, _, space in spaces(38, 750):
            told = (space.kind, space.q, space.matrix)
            for k in range(4):
                rows = source.rows(space.q, space.n, k)
                found = space.perp(rows)
                walked = {x for x in walk(*told[1:2], space.n) if not any(slow_product(*told, x, y) for y in rows)}
                self.assertEqual(found, table_of(space.q, walked, space.n))
                self.assertEqual(space.perp(list(rows)), found)

    def test_perp_of_perp(self):
        for source, _, space in spaces(39, 750):
            for k in range(3):
                rows = source.rows(space.q, space.n, k)
                twice = space.perp(space.perp(rows))
                expected = span_set(space.q, (*rows, *space.radical()), space.n)
                self.assertEqual(twice, table_of(space.q, expected, space.n))

    def test_is_singular(self):
        seen = {True: 0, False: 0}
        for source, _, space in spaces(40, 700):
            told = (space.kind, space.q, space.matrix)
            zeros = [x for x in walk(space.q, space.n) if slow_value(*told, x) == 0]
            sets = [()] + [source.rows(space.q, space.n, k) for k in (1, 2)]
            sets += [tuple(zeros[source.below(len(zeros))] for _ in range(k)) for k in (1, 2, 2, 2, 3)]
            sets.append(space.singular_radical())
            for rows in sets:
                spanned = sorted(span_set(space.q, rows, space.n))
                right = not any(slow_value(*told, x) for x in spanned)
                others = rows if len(spanned) > 81 else spanned
                right = right and not any(slow_product(*told, x, y) for x in others for y in others)
                seen[right] += 1
                self.assertIs(space.is_singular(rows), right, (told, rows))
                self.assertIs(space.is_singular(list(rows)), right)
        self.assertGreater(min(seen.values()), 100)

    def test_nothing_changes(self):
        for source, _, space in spaces(41, 100):
            rows = list(source.rows(space.q, space.n, 2))
            kept = list(rows)
            before = (str(space), space.matrix, space.gram(), space.radical(), space.singular_radical())
            space.perp(rows), space.is_singular(rows), space.rows()
            self.assertEqual(rows, kept)
            after = (str(space), space.matrix, space.gram(), space.radical(), space.singular_radical())
            self.assertEqual(before, after)
        matrix = [[0, 1], [0, 0]]
        space = Space("quadratic", 3, matrix)
        matrix[0][0] = 2
        self.assertEqual(space.matrix, ((0, 1), (0, 0)))


class Texts(unittest.TestCase):
    def test_told_texts(self):
        for kind, q, matrix, text in (
            ("alternating", 3, ((0, 1), (2, 0)), "a 3 2: 0 1; 2 0"),
            ("quadratic", 2, (), "q 2 0:"),
            ("hermitian", 9, ((2,),), "h 9 1: 2"),
            ("hermitian", 4, ((1, 2, 0), (3, 0, 1), (0, 1, 1)), "h 4 3: 1 2 0; 3 0 1; 0 1 1"),
            ("quadratic", 7, ((6, 5), (0, 4)), "q 7 2: 6 5; 0 4"),
        ):
            self.assertEqual(str(Space(kind, q, matrix)), text)
            self.assertEqual(read_space(text), Space(kind, q, matrix))

    def test_read_back(self):
        for _, _, space in spaces(42, 10 ** 6):
            rows = [" " + " ".join(map(str, row)) for row in space.matrix]
            self.assertEqual(str(space), f"{space.kind[0]} {space.q} {space.n}:" + ";".join(rows))
            found = read_space(str(space))
            self.assertIs(type(found), Space)
            self.assertEqual(found, space)

    def check_no_text(self, value):
        with self.assertRaises(NoText, msg=repr(value)) as caught:
            read_space(value)
        self.assertEqual(caught.exception.at, 0)

    def test_spoilt_texts(self):
        for text in ("a 3 2: 0 1; 2 0", "q 2 0:", "h 9 1: 2", "h 4 2: 1 2; 3 0", "q 7 2: 6 5; 0 4", "q 5 1: 0"):
            right = {str(read_space(text))}
            for i in range(len(text) + 1):
                for sign in " ;:0123456789aqhx-+_.,\n\t\u0661\u00b2":
                    for other in (text[:i] + sign + text[i:], text[:i] + sign + text[i + 1:]):
                        self.check_spoilt(other, right)
                self.check_spoilt(text[:i] + text[i + 1:], right)

    def check_spoilt(self, text, right):
        """A text is read exactly if the space that is read has this very text; few of the changes give one."""
        try:
            found = read_space(text)
        except NoText as error:
            self.assertEqual(error.at, 0)
            self.assertNotIn(text, right)
        else:
            self.assertEqual(str(found), text)

    def test_no_texts(self):
        for text in (
            "", " ", ":", "q", "q 3", "q 3 1", "q 3 1:", "q 3 1:1", "q 3 1:  1", "q 3 1: 1 ", " q 3 1: 1", "q  3 1: 1",
            "q 3 1 : 1", "q 3 1: 1;", "q 3 1: 1; 1", "q 3 2: 1; 1", "q 3 1: 3", "q 3 1: -1", "q 3 1: 01", "q 3 01: 1",
            "q 03 1: 1", "q 3 1: 1\n", "quadratic 3 1: 1", "Q 3 1: 1", "q 6 1: 1", "q 8 1: 1", "q 16 1: 1",
            "h 3 1: 1", "h 2 0:", "h 4 1: 2", "h 9 1: 3", "a 3 1: 1", "a 3 2: 0 1; 1 0", "q 3 2: 0 0; 1 0",
            "h 4 2: 0 2; 2 0", "q 3 0: ", "q 3 0:;", "q 3 0: 0", "q 3 1:: 1", "q 3 2: 1 0, 0 1", "q 3 2: 1 0 ; 0 1",
            "q 3 2: 1 0;0 1", "q 2 2: 1 1; 0", "q 2 2: 1 1; 0 1 1", "q 2 3: 1 1; 0 1", "q 2 1: 1; 0 1", "q 2 -1:",
            "q 2 7:" + ";".join([" 0 0 0 0 0 0 0"] * 7), "x 2 0:", "q 2 0", "q 2 0:\n", "q\t2 0:", "q 2 0: 0; 0",
        ):
            self.check_no_text(text)

    def test_values_that_are_no_strings(self):
        for value in odd_values() + [b"q 2 0:", ("q 2 0:",), ["q 2 0:"], Space("quadratic", 2, ())]:
            self.check_no_text(value)


class Examples(unittest.TestCase):
    def test_document(self):
        space = Space("quadratic", 2, ((1, 1), (0, 1)))
        self.assertEqual([space.value(x) for x in space.rows()], [0, 1, 1, 1])

    def test_samples_have_all_shapes(self):
        """The samples hold radicals greater than the singular ones, in bases other than the normal ones."""
        shapes = {(space.kind, space.q, r, s) for _, (_, r, s, _), space in spaces(43, 100)}
        for q in (2, 4):
            self.assertTrue({("quadratic", q, 1, 0), ("quadratic", q, 2, 1), ("quadratic", q, 2, 2)} <= shapes)
        for q in SIZES:
            self.assertTrue({("alternating", q, 0, 0), ("alternating", q, 2, 2), ("quadratic", q, 0, 0)} <= shapes)
        source = Source(44)
        matrix = some_invertible(source, 5, 3)
        self.assertTrue(independent(5, matrix, 3))
        self.assertEqual(slow_combine(5, matrix, (1, 0, 0), 3), matrix[0])


if __name__ == "__main__":
    unittest.main()
