import unittest
from itertools import product

from helper import (
    FORMS, KINDS, MINUS, PLUS, SIZES, Source, TIMES, disguised, normals, odd_values, span_set, walk,
)
from maps import drawn_spaces, outcome, product_of, spaces_of, told, value
from wittspaces.build import direct_sum, hyperbolic, restricted, scaled, zero_space
from wittspaces.normal import invariants, is_normal, normal_form, normal_space
from wittspaces.similar import anisotropic_part, isometric, witt_index
from wittspaces.space import Space, read_space
from wittspaces.witt import (
    all_classes, class_negative, class_product, class_sum, product_table, sum_table, tensor, witt_class,
)

ODD = (3, 5, 7, 9)
# By the words of point 9.2; the least nonsquares are 2, 2, 3 and 4, the least numbers without a root 1 and 2.
TOLD = {
    ("quadratic", 2): ["q 2 0:", "q 2 2: 1 1; 0 1"], ("quadratic", 4): ["q 4 0:", "q 4 2: 1 1; 0 2"],
    ("quadratic", 3): ["q 3 0:", "q 3 1: 1", "q 3 1: 2", "q 3 2: 1 0; 0 1"],
    ("quadratic", 5): ["q 5 0:", "q 5 1: 1", "q 5 1: 2", "q 5 2: 1 0; 0 2"],
    ("quadratic", 7): ["q 7 0:", "q 7 1: 1", "q 7 1: 3", "q 7 2: 1 0; 0 1"],
    ("quadratic", 9): ["q 9 0:", "q 9 1: 1", "q 9 1: 4", "q 9 2: 1 0; 0 4"],
    ("hermitian", 4): ["h 4 0:", "h 4 1: 1"], ("hermitian", 9): ["h 9 0:", "h 9 1: 1"],
}


def whole(seed, forms=tuple(FORMS), most=6, each=1):
    """Spaces without radical, in drawn bases."""
    for space in drawn_spaces(Source(seed), lambda kind, q: most, forms, each):
        if not space.radical():
            yield space


def is_anisotropic(space):
    return not any(any(x) and value(space, x) == 0 for x in walk(space.q, space.n))


def half(q):
    return TIMES[q][PLUS[q][1][1]].index(1)


class Classes(unittest.TestCase):
    def test_against_the_anisotropic_part(self):
        for space in whole(320, each=2):
            found = witt_class(space)
            self.assertIs(type(found), Space)
            self.assertEqual(found, anisotropic_part(space))
            self.assertEqual((found.kind, found.q), (space.kind, space.q))
            self.assertTrue(is_normal(found) and is_anisotropic(found))
            # Together with hyperbolic planes it is the space again.
            self.assertEqual((space.n - found.n) % 2, 0)
            planes = hyperbolic(space.kind, space.q, (space.n - found.n) // 2)
            self.assertEqual(invariants(direct_sum(found, planes)), invariants(space))
            self.assertEqual(witt_index(space), (space.n - found.n) // 2)
            self.assertIn(found, all_classes(space.kind, space.q))

    def test_hyperbolic_spaces(self):
        for kind, q in FORMS:
            for m in range(4):
                self.assertEqual(witt_class(hyperbolic(kind, q, m)), zero_space(kind, q, 0))
            for m in range(1, 3):
                for space in spaces_of(Source(321), kind, q, 6 - 2 * m):
                    if not space.radical():
                        self.assertEqual(witt_class(direct_sum(hyperbolic(kind, q, m), space)), witt_class(space))

    def test_one_class_and_dimension(self):
        """Spaces of one class and one dimension are isometric, others are not."""
        for kind, q in FORMS:
            for n in range(7):
                spaces = [space for space in spaces_of(Source(322), kind, q, n) if not space.radical()]
                for a, b in product(spaces, spaces):
                    self.assertIs(witt_class(a) == witt_class(b), isometric(a, b))

    def test_radical(self):
        for space in drawn_spaces(Source(323), lambda kind, q: 4):
            due = "radical" if space.radical() else None
            self.assertEqual(outcome(witt_class, space), due)
            self.assertEqual(outcome(class_negative, space), due)
            self.assertEqual(outcome(class_sum, space, space), due)
            self.assertEqual(outcome(class_sum, zero_space(space.kind, space.q, 0), space), due)
            self.assertEqual(outcome(class_sum, space, zero_space(space.kind, space.q, 0)), due)

    def test_all_classes(self):
        for kind, q in FORMS:
            expected = TOLD.get((kind, q), [f"a {q} 0:"])
            found = all_classes(kind, q)
            self.assertIs(type(found), tuple)
            self.assertEqual([str(one) for one in found], expected)
            self.assertEqual(list(found), sorted(found, key=lambda one: (one.n, one.matrix)))
            # No others: of the dimensions up to 3 these are the normal spaces without a row of value 0.
            anisotropic = [
                Space(kind, q, matrix) for n in range(4) for numbers, matrix in normals(kind, q, n)
                if numbers[1] == 0 and is_anisotropic(Space(kind, q, matrix))
            ]
            self.assertEqual([str(one) for one in anisotropic], expected)

    def test_all_classes_of_wrong_values(self):
        for function in (all_classes, sum_table):
            for wrong in odd_values() + ["", "q", "Quadratic", KINDS, 3, b"quadratic"]:
                if wrong != "quadratic":
                    self.assertEqual(outcome(function, wrong, 4), "malformed")
                    self.assertEqual(outcome(function, wrong, None), "malformed")
            for wrong in odd_values() + [0, 1, 6, 8, 10, 11, 25, (3,), "3"]:
                for kind in KINDS:
                    self.assertEqual(outcome(function, kind, wrong), "malformed")
            for q in (2, 3, 5, 7):
                self.assertEqual(outcome(function, "hermitian", q), "malformed")
        for wrong in odd_values() + [0, 1, 6, 8, 10, 11, 25, (3,), "3"]:
            self.assertEqual(outcome(product_table, wrong), "malformed")
        for q in SIZES:
            self.assertEqual(outcome(product_table, q), None if q in ODD else "two")


class Sums(unittest.TestCase):
    def test_against_direct_sums(self):
        for kind, q in FORMS:
            spaces = list(whole(330, [(kind, q)], 4))
            for a, b in product(spaces, spaces):
                found = class_sum(a, b)
                self.assertIs(type(found), Space)
                self.assertEqual(found, class_sum(b, a))
                if a.n + b.n <= 6:
                    self.assertEqual(found, normal_form(witt_class(direct_sum(a, b)))[0], (told(a), told(b)))

    def test_beyond_six_dimensions(self):
        """With planes taken off that do not count."""
        for kind, q in FORMS:
            spaces = [space for space in whole(331, [(kind, q)]) if space.n > 2]
            for a, b in product(spaces, spaces):
                less_a = self.without_planes(a)
                less_b = self.without_planes(b)
                self.assertLessEqual(less_a.n + less_b.n, 6)
                self.assertEqual(class_sum(a, b), witt_class(direct_sum(less_a, less_b)))

    def without_planes(self, space):
        """A space of at most three dimensions to which planes are to be added."""
        found = [
            one for n in range(space.n % 2, 4, 2) for one in spaces_of(Source(332), space.kind, space.q, n)
            if not one.radical() and isometric(space, direct_sum(one, hyperbolic(
                space.kind, space.q, (space.n - n) // 2)))
        ]
        return found[-1]

    def test_negatives(self):
        for space in whole(333, each=2):
            found = class_negative(space)
            multiple = scaled(space, MINUS[space.q][1])
            self.assertEqual(found, witt_class(multiple))
            zero = zero_space(space.kind, space.q, 0)
            self.assertEqual(class_sum(space, multiple), zero)
            self.assertEqual(class_sum(space, found), zero)
            self.assertEqual(class_sum(witt_class(space), found), zero)
            self.assertEqual(class_negative(found), witt_class(space))
            if space.n <= 3:
                # The rows (x, x) are totally singular.
                both = direct_sum(space, multiple)
                rows = [x + x for x in walk(space.q, space.n)][:200]
                self.assertFalse(any(value(both, row) for row in rows))

    def test_tables(self):
        for kind, q in FORMS:
            classes = all_classes(kind, q)
            table = sum_table(kind, q)
            self.assertIs(type(table), tuple)
            self.assertEqual({type(row) for row in table}, {tuple})
            for i, a in enumerate(classes):
                for j, b in enumerate(classes):
                    self.assertEqual(classes[table[i][j]], class_sum(a, b))
                    self.assertEqual(classes[table[i][j]], normal_form(anisotropic_part(direct_sum(a, b)))[0])
            many = range(len(classes))
            self.assertEqual(table[0], tuple(many))
            self.assertTrue(all(sorted(row) == list(many) for row in table))
            self.assertTrue(all(table[table[i][j]][k] == table[i][table[j][k]]
                                for i in many for j in many for k in many))

    def test_groups_as_told(self):
        for kind, q in FORMS:
            table = sum_table(kind, q)
            if len(table) == 4:
                # That of the numbers modulo 4, or twice each class is 0.
                twice = tuple(table[i][i] for i in range(4))
                self.assertEqual(twice, (0, 3, 3, 0) if q in (3, 7) else (0, 0, 0, 0))
            elif len(table) == 2:
                self.assertEqual(table, ((0, 1), (1, 0)))
            else:
                self.assertEqual((kind, table), ("alternating", ((0,),)))
        self.assertEqual(sum_table("quadratic", 3), ((0, 1, 2, 3), (1, 3, 0, 2), (2, 0, 3, 1), (3, 2, 1, 0)))

    def test_errors(self):
        spaces = [zero_space(kind, q, n) for kind, q in FORMS for n in (0, 1)]
        spaces += [hyperbolic(kind, q, 3) for kind, q in FORMS]
        for a, b in product(spaces, spaces):
            due = None
            if (a.kind, a.q) != (b.kind, b.q):
                due = "malformed"
            elif a.n == 1 or b.n == 1:
                due = "radical"
            self.assertEqual(outcome(class_sum, a, b), due)


class Products(unittest.TestCase):
    def test_against_products_of_spaces(self):
        for q in ODD:
            spaces = list(whole(340, [("quadratic", q)], 6))
            for a, b in product(spaces, spaces):
                found = class_product(a, b)
                self.assertIs(type(found), Space)
                self.assertEqual(found, class_product(b, a))
                self.assertEqual(found, class_product(witt_class(a), witt_class(b)))
                if a.n * b.n <= 6:
                    self.assertEqual(found, witt_class(tensor(a, b)), (told(a), told(b)))
                if witt_class(a).n == 0:
                    self.assertEqual(found.n, 0)

    def test_beyond_six_dimensions(self):
        """Products of sums are sums of products, here of the multiples of an orthogonal basis."""
        for q in ODD:
            spaces = [space for space in whole(341, [("quadratic", q)]) if space.n > 3]
            for a, b in product(spaces, spaces[::2]):
                total = zero_space("quadratic", q, 0)
                _, rows = normal_form(a)
                for row in rows:
                    total = class_sum(total, class_product(restricted(a, [row]), b))
                self.assertEqual(class_product(a, b), total)

    def test_ring(self):
        for q in ODD:
            classes = all_classes("quadratic", q)
            sums, products = sum_table("quadratic", q), product_table(q)
            many = range(4)
            self.assertIs(type(products), tuple)
            self.assertEqual({type(row) for row in products}, {tuple})
            for i, j in product(many, many):
                self.assertEqual(classes[products[i][j]], class_product(classes[i], classes[j]))
                self.assertEqual(classes[products[i][j]], witt_class(tensor(classes[i], classes[j])))
                self.assertEqual(products[i][j], products[j][i])
                for k in many:
                    self.assertEqual(products[i][sums[j][k]], sums[products[i][j]][products[i][k]])
                    self.assertEqual(products[i][products[j][k]], products[products[i][j]][k])
            # The class of x^2 is 1, and that of the dimension 0 is 0.
            self.assertEqual(products[1], (0, 1, 2, 3))
            self.assertEqual(products[0], (0, 0, 0, 0))
            self.assertEqual(products[2][2], 1)

    def test_sums_of_spaces(self):
        for q in ODD:
            spaces = list(whole(342, [("quadratic", q)], 3))
            for a, b, c in product(spaces, spaces, spaces[::2]):
                left = class_product(direct_sum(a, b), c)
                self.assertEqual(left, class_sum(class_product(a, c), class_product(b, c)))

    def test_errors(self):
        spaces = [zero_space(kind, q, n) for kind, q in FORMS for n in (0, 1)]
        spaces += [hyperbolic(kind, q, 3) for kind, q in FORMS]
        seen = set()
        for a, b in product(spaces, spaces):
            due = None
            if (a.kind, a.q) != (b.kind, b.q):
                due = "malformed"
            elif a.kind != "quadratic":
                due = "kind"
            elif a.q in (2, 4):
                due = "two"
            elif a.n == 1 or b.n == 1:
                due = "radical"
            self.assertEqual(outcome(class_product, a, b), due)
            if due in (None, "radical"):
                due = "large" if a.n * b.n > 6 else None
            self.assertEqual(outcome(tensor, a, b), due)
            seen.add(due)
        self.assertEqual(seen, {None, "malformed", "kind", "two", "large"})


class Tensors(unittest.TestCase):
    def test_values_and_products(self):
        """Also with radicals."""
        for q in ODD:
            source = Source(350)
            spaces = list(drawn_spaces(source, lambda kind, q: 6, [("quadratic", q)]))
            for a, b in product(spaces, spaces):
                if a.n * b.n > 6:
                    self.assertEqual(outcome(tensor, a, b), "large")
                    continue
                found = tensor(a, b)
                self.assertEqual((found.kind, found.q, found.n), ("quadratic", q, a.n * b.n))
                for _ in range(3):
                    u, v = source.rows(q, a.n, 2)
                    w, x = source.rows(q, b.n, 2)
                    one = tuple(TIMES[q][c][d] for c in u for d in w)
                    two = tuple(TIMES[q][c][d] for c in v for d in x)
                    self.assertEqual(value(found, one), TIMES[q][value(a, u)][value(b, w)])
                    both = TIMES[q][product_of(a, u, v)][product_of(b, w, x)]
                    self.assertEqual(product_of(found, one, two), TIMES[q][half(q)][both])

    def test_unit_rows(self):
        """The unit row with the index i n + j belongs to those with the indexes i and j."""
        for q in ODD:
            for m, n in ((1, 6), (6, 1), (2, 3), (3, 2), (2, 2), (1, 1), (0, 5), (5, 0)):
                for a in spaces_of(Source(351), "quadratic", q, m):
                    for b in spaces_of(Source(352), "quadratic", q, n)[:3]:
                        gram = tensor(a, b).gram()
                        for i, j, k, h in product(range(m), range(n), range(m), range(n)):
                            both = TIMES[q][a.gram()[i][k]][b.gram()[j][h]]
                            self.assertEqual(gram[i * n + j][k * n + h], TIMES[q][half(q)][both])

    def test_radicals(self):
        """The rank of the product is the product of the ranks."""
        for q in ODD:
            spaces = list(drawn_spaces(Source(353), lambda kind, q: 3, [("quadratic", q)]))
            for a, b in product(spaces, spaces):
                if a.n * b.n <= 6:
                    rank = a.n * b.n - len(tensor(a, b).radical())
                    self.assertEqual(rank, (a.n - len(a.radical())) * (b.n - len(b.radical())))

    def test_told(self):
        a, b = read_space("q 5 2: 1 0; 0 2"), read_space("q 5 2: 3 0; 0 4")
        self.assertEqual(str(tensor(a, b)), "q 5 4: 3 0 0 0; 0 4 0 0; 0 0 1 0; 0 0 0 3")
        plane = hyperbolic("quadratic", 3, 1)
        self.assertEqual(str(tensor(plane, plane)), "q 3 4: 0 0 0 2; 0 0 2 0; 0 0 0 0; 0 0 0 0")
        self.assertEqual(len(span_set(3, tensor(plane, zero_space("quadratic", 3, 2)).radical(), 4)), 81)
        self.assertEqual(witt_class(normal_space("quadratic", 3, (2, 0, 0, 1))).n, 2)
        self.assertEqual(str(witt_class(Space("quadratic", 7, disguised(
            Source(354), "quadratic", 7, ((1, 0, 0), (0, 1, 0), (0, 0, 6)))))), "q 7 1: 1")


if __name__ == "__main__":
    unittest.main()
