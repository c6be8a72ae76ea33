import unittest

from helper import MINUS, MIRROR, PLUS, SIZES, TIMES, odd_values
from wittspaces.errors import Malformed, Refused
from wittspaces.field import Field

# Written out by hand from point 1.1.
PRODUCTS_OF_FOUR = ((0, 0, 0, 0), (0, 1, 2, 3), (0, 2, 3, 1), (0, 3, 1, 2))


class Making(unittest.TestCase):
    def test_sizes(self):
        for q, p in ((2, 2), (3, 3), (4, 2), (5, 5), (7, 7), (9, 3)):
            field = Field(q)
            self.assertEqual((field.q, field.p), (q, p))
            self.assertEqual(field.numbers(), tuple(range(q)))

    def test_malformed(self):
        for value in odd_values() + [0, 1, 6, 8, 10, 11, 16, 25, (2,), "3"]:
            with self.assertRaises(Malformed):
                Field(value)

    def test_equality(self):
        for q in SIZES:
            for other in SIZES:
                self.assertIs(Field(q) == Field(other), q == other)
            for value in odd_values() + [q, (q,)]:
                if not isinstance(value, Field):
                    self.assertIs(Field(q) == value, False)

    def test_is_number(self):
        for q in SIZES:
            field = Field(q)
            for value in range(-3, 12):
                self.assertIs(field.is_number(value), 0 <= value < q)
            for value in odd_values():
                self.assertIs(field.is_number(value), False)


class Arithmetic(unittest.TestCase):
    def test_written_tables(self):
        field = Field(4)
        for a in range(4):
            for b in range(4):
                self.assertEqual(field.multiply(a, b), PRODUCTS_OF_FOUR[a][b])
                self.assertEqual(field.add(a, b), a ^ b)
        nine = Field(9)
        # 3 is i, 4 is 1 + i: i i = -1 and (1 + i)(1 + i) = 2 i.
        self.assertEqual(nine.multiply(3, 3), 2)
        self.assertEqual(nine.multiply(4, 4), 6)
        self.assertEqual(nine.add(5, 7), 0)

    def test_all_pairs(self):
        for q in SIZES:
            field = Field(q)
            for a in range(q):
                for b in range(q):
                    self.assertEqual(field.add(a, b), PLUS[q][a][b])
                    self.assertEqual(field.multiply(a, b), TIMES[q][a][b])
                    self.assertEqual(field.subtract(a, b), PLUS[q][a][MINUS[q][b]])
                    self.assertEqual(field.add(field.subtract(a, b), b), a)

    def test_negative_and_inverse(self):
        for q in SIZES:
            field = Field(q)
            for a in range(q):
                self.assertEqual(PLUS[q][a][field.negative(a)], 0)
            for a in range(1, q):
                self.assertEqual(TIMES[q][a][field.inverse(a)], 1)
            with self.assertRaises(Refused) as caught:
                field.inverse(0)
            self.assertEqual(caught.exception.reason, "zero")

    def test_powers(self):
        for q in SIZES:
            field = Field(q)
            for a in range(q):
                expected = 1
                for k in range(41):
                    self.assertEqual(field.power(a, k), expected, (q, a, k))
                    expected = TIMES[q][expected][a]


class Conjugates(unittest.TestCase):
    def test_mirrored(self):
        for q in SIZES:
            field = Field(q)
            for a in range(q):
                self.assertEqual(field.mirrored(a), MIRROR[q][a])
                self.assertEqual(field.mirrored(field.mirrored(a)), a)
                self.assertIs(field.is_fixed(a), MIRROR[q][a] == a)
                self.assertEqual(field.trace(a), PLUS[q][a][MIRROR[q][a]])
                self.assertEqual(field.norm(a), TIMES[q][a][MIRROR[q][a]])
                for b in range(q):
                    self.assertEqual(field.mirrored(field.add(a, b)), field.add(field.mirrored(a), field.mirrored(b)))
                    both = field.multiply(field.mirrored(a), field.mirrored(b))
                    self.assertEqual(field.mirrored(field.multiply(a, b)), both)

    def test_told_values(self):
        four, nine = Field(4), Field(9)
        self.assertEqual([c for c in four.numbers() if four.is_fixed(c)], [0, 1])
        self.assertEqual([c for c in nine.numbers() if nine.is_fixed(c)], [0, 1, 2])
        self.assertEqual((four.trace(2), nine.trace(2), nine.trace(1), nine.norm(4)), (1, 1, 2, 2))
        for field, fixed in ((four, {0, 1}), (nine, {0, 1, 2})):
            self.assertEqual({field.trace(c) for c in field.numbers()}, fixed)
            self.assertEqual({field.norm(c) for c in field.numbers()}, fixed)
        for q in (2, 3, 5, 7):
            self.assertTrue(all(Field(q).is_fixed(c) for c in range(q)))
            self.assertTrue(all(Field(q).norm(c) == c * c % q for c in range(q)))


class Squares(unittest.TestCase):
    def test_squares_and_roots(self):
        for q in SIZES:
            field = Field(q)
            for a in range(q):
                roots = [x for x in range(q) if TIMES[q][x][x] == a]
                self.assertIs(field.is_square(a), bool(roots))
                if roots:
                    self.assertEqual(field.root(a), roots[0])
                else:
                    with self.assertRaises(Refused) as caught:
                        field.root(a)
                    self.assertEqual(caught.exception.reason, "square")

    def test_least_nonsquare(self):
        for q, least in ((3, 2), (5, 2), (7, 3), (9, 4)):
            self.assertEqual(Field(q).least_nonsquare(), least)
            self.assertEqual(sum(Field(q).is_square(a) for a in range(q)), (q + 1) // 2)
        for q in (2, 4):
            with self.assertRaises(Refused) as caught:
                Field(q).least_nonsquare()
            self.assertEqual(caught.exception.reason, "two")

    def test_half_roots(self):
        for q, least in ((2, 1), (4, 2)):
            field = Field(q)
            self.assertEqual(field.least_without_root(), least)
            for k in range(q):
                found = [x for x in range(q) if PLUS[q][TIMES[q][x][x]][x] == k]
                self.assertEqual(field.half_root(k), found[0] if found else None)

    def test_odd_is_refused(self):
        for q in (3, 5, 7, 9):
            field = Field(q)
            with self.assertRaises(Refused) as caught:
                field.least_without_root()
            self.assertEqual(caught.exception.reason, "odd")
            for k in range(q):
                with self.assertRaises(Refused) as caught:
                    field.half_root(k)
                self.assertEqual(caught.exception.reason, "odd")

    def test_equal_arguments_equal_results(self):
        for q in SIZES:
            field = Field(q)
            before = (field.q, field.p, [[field.add(a, b) for a in range(q)] for b in range(q)])
            for a in range(1, q):
                field.inverse(a), field.power(a, 5), field.mirrored(a), field.is_square(a)
            self.assertEqual((field.q, field.p, [[field.add(a, b) for a in range(q)] for b in range(q)]), before)


if __name__ == "__main__":
    unittest.main()
