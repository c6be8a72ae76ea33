import unittest
from itertools import combinations

from helper import (
    FORMS, Source, disguised, looks_reduced, most_dimension, odd_values, pulled, slow_add, span_set, table_of, tables,
    walk,
)
from maps import drawn_spaces, outcome, product_of, spaces_of, told, value
from wittspaces.build import hyperbolic, zero_space
from wittspaces.counts import singular_count
from wittspaces.normal import normal_space
from wittspaces.polar import joined, one_or_all, points, points_of, residue, singular_subspaces
from wittspaces.similar import witt_index
from wittspaces.space import Space

# The greatest dimensions with at most 4096 rows.
WALKED = {2: 6, 3: 6, 4: 6, 5: 5, 7: 4, 9: 3}


def begins_with_one(x):
    return any(x) and [c for c in x if c != 0][0] == 1


def walked_points(space):
    return tuple(x for x in walk(space.q, space.n) if begins_with_one(x) and value(space, x) == 0)


def walked_subspaces(space, k):
    """All reduced tables of the dimension k whose rows have the values and the products 0, ascending."""
    q, n = space.q, space.n
    zeros = {x for x in walk(q, n) if value(space, x) == 0}
    return tuple(sorted(
        table for table in tables(q, n, k) if all(x in zeros for x in table) and not any(
            product_of(space, x, y) for x, y in combinations(table, 2)
        )
    ))


class Points(unittest.TestCase):
    def test_against_all_rows(self):
        for space in drawn_spaces(Source(110), lambda kind, q: most_dimension(q, 800), each=2):
            found = points(space)
            self.assertIs(type(found), tuple)
            self.assertEqual(found, walked_points(space), told(space))
            self.assertEqual(len(found), singular_count(space, 1))

    def test_bounds(self):
        for kind, q in FORMS:
            for space in spaces_of(Source(111), kind, q, WALKED[q]):
                found = points(space)
                self.assertEqual(len(found), singular_count(space, 1))
                self.assertEqual(found, tuple(sorted(set(found))))
                self.assertTrue(all(begins_with_one(x) and space.value(x) == 0 for x in found))
            for n in range(WALKED[q] + 1, 7):
                for space in spaces_of(Source(112), kind, q, n):
                    self.assertEqual(outcome(points, space), "large")
                    self.assertGreater(singular_count(space, 1), 0)

    def test_points_of_subspaces(self):
        for kind, q in FORMS:
            space = zero_space(kind, q, 3)
            for k in range(4):
                for table in tables(q, 3, k)[:60]:
                    expected = sorted(x for x in span_set(q, table, 3) if begins_with_one(x))
                    self.assertEqual(points_of(space, table), tuple(expected))

    def test_points_of_larger_subspaces(self):
        source = Source(113)
        for kind, q in FORMS:
            for space in spaces_of(source, kind, q, 6)[:2]:
                for k in (2, 3):
                    table = table_of(q, span_set(q, source.rows(q, 6, k), 6), 6)
                    expected = sorted(x for x in span_set(q, table, 6) if begins_with_one(x))
                    self.assertEqual(points_of(space, table), tuple(expected))
        self.assertEqual(points_of(zero_space("quadratic", 9, 6), ()), ())

    def test_examples(self):
        self.assertEqual(points(hyperbolic("quadratic", 3, 1)), ((0, 1), (1, 0)))
        self.assertEqual(singular_count(hyperbolic("alternating", 2, 2), 2), 15)
        self.assertEqual(points(zero_space("hermitian", 9, 0)), ())
        self.assertEqual(points(zero_space("quadratic", 5, 1)), ((1,),))
        self.assertEqual(points(Space("quadratic", 5, ((2,),))), ())


class Subspaces(unittest.TestCase):
    def test_against_all_subspaces(self):
        for space in drawn_spaces(Source(114), lambda kind, q: min(4, most_dimension(q, 130))):
            for k in range(space.n + 1):
                found = singular_subspaces(space, k)
                self.assertIs(type(found), tuple)
                self.assertEqual(found, walked_subspaces(space, k), (told(space), k))
                self.assertEqual(len(found), singular_count(space, k))
            for k in (space.n + 1, space.n + 2, 7, 100, 10 ** 30):
                self.assertEqual(singular_subspaces(space, k), ())

    def test_larger_spaces(self):
        """Ascending, singular, without repetition, and as many as are counted."""
        for kind, q, numbers in (
            ("alternating", 2, (6, 0, 0, 0)), ("quadratic", 2, (6, 0, 0, 1)), ("quadratic", 2, (6, 0, 0, -1)),
            ("quadratic", 2, (5, 1, 0, 0)), ("quadratic", 2, (6, 2, 1, 0)), ("quadratic", 3, (5, 0, 0, 1)),
            ("quadratic", 3, (6, 0, 0, 1)), ("alternating", 3, (5, 1, 1, 0)), ("alternating", 3, (6, 0, 0, 0)),
            ("quadratic", 4, (5, 1, 0, 0)), ("quadratic", 4, (6, 0, 0, 1)), ("quadratic", 4, (6, 2, 1, 0)),
            ("hermitian", 4, (5, 0, 0, 0)), ("hermitian", 4, (6, 0, 0, 0)), ("quadratic", 5, (5, 1, 1, 1)),
            ("quadratic", 7, (4, 0, 0, -1)), ("alternating", 7, (4, 0, 0, 0)), ("hermitian", 9, (3, 1, 1, 0)),
        ):
            space = normal_space(kind, q, numbers)
            space = Space(kind, q, disguised(Source(115), kind, q, space.matrix))
            for k in range(space.n + 2):
                if singular_count(space, k) > 2000:
                    self.assertEqual(outcome(singular_subspaces, space, k), "many")
                    continue
                found = singular_subspaces(space, k)
                self.assertEqual(len(found), singular_count(space, k))
                self.assertEqual(list(found), sorted(set(found)))
                for table in found:
                    self.assertTrue(looks_reduced(table) and len(table) == k)
                    self.assertTrue(space.is_singular(table))

    def test_bounds(self):
        """Refused are more than 4096 rows, whatever the dimension, then more than 2000 subspaces."""
        for kind, q in FORMS:
            for n in range(WALKED[q] + 1, 7):
                for space in (spaces_of(Source(116), kind, q, n)[0], zero_space(kind, q, n)):
                    for k in (0, 1, 2, n, n + 1, 10 ** 30):
                        self.assertEqual(outcome(singular_subspaces, space, k), "large")
        for kind, q, numbers, k, count in (
            ("quadratic", 4, (6, 0, 0, 1), 2, 1785), ("alternating", 4, (6, 4, 4, 0), 4, 1701),
            ("hermitian", 4, (6, 2, 2, 0), 3, 2205), ("quadratic", 3, (6, 4, 4, -1), 2, 2290),
            ("quadratic", 7, (4, 4, 4, 1), 2, 2850), ("alternating", 3, (6, 6, 6, 0), 3, 33880),
            ("alternating", 4, (6, 6, 6, 0), 1, 1365), ("alternating", 4, (6, 6, 6, 0), 5, 1365),
        ):
            space = normal_space(kind, q, numbers)
            self.assertEqual(singular_count(space, k), count)
            if count > 2000:
                self.assertEqual(outcome(singular_subspaces, space, k), "many")
            else:
                self.assertEqual(len(singular_subspaces(space, k)), count)


class Joined(unittest.TestCase):
    def test_joined(self):
        for space in drawn_spaces(Source(117), lambda kind, q: most_dimension(q, 130)):
            every = walked_points(space)
            for x in every[::3]:
                expected = tuple(y for y in every if y != x and product_of(space, x, y) == 0)
                self.assertEqual(joined(space, x), expected)

    def test_joined_spans_singular_subspaces(self):
        for space in drawn_spaces(Source(118), lambda kind, q: most_dimension(q, 90)):
            lines = set(singular_subspaces(space, 2))
            for x in points(space)[:6]:
                for y in points(space):
                    spanned = table_of(space.q, span_set(space.q, (x, y), space.n), space.n)
                    self.assertIs(y in joined(space, x), spanned in lines)

    def test_large(self):
        for kind, q in FORMS:
            for n in range(WALKED[q] + 1, 7):
                space = zero_space(kind, q, n)
                self.assertEqual(outcome(joined, space, space.unit(0)), "large")
            space = zero_space(kind, q, WALKED[q])
            self.assertEqual(len(joined(space, space.unit(0))), singular_count(space, 1) - 1)

    def test_one_or_all(self):
        seen = set()
        for space in drawn_spaces(Source(119), lambda kind, q: min(4, most_dimension(q, 260))):
            q, n = space.q, space.n
            if singular_count(space, 2) > 2000:
                continue
            for line in singular_subspaces(space, 2)[::5]:
                on_line = sorted(x for x in span_set(q, line, n) if begins_with_one(x))
                self.assertEqual(len(on_line), q + 1)
                for x in points(space)[::7]:
                    found = one_or_all(space, x, line)
                    self.assertEqual(found, tuple(y for y in on_line if product_of(space, x, y) == 0))
                    self.assertIn(len(found), (1, q + 1))
                    if x in on_line:
                        self.assertEqual(found, tuple(on_line))
                    seen.add((q, len(found) == 1))
        self.assertEqual(seen, {(q, one) for q in (2, 3, 4, 5) for one in (False, True)} | {(7, False), (9, False)})

    def test_one_or_all_of_larger_spaces(self):
        """No number of rows is refused here."""
        for kind, q in FORMS:
            space = hyperbolic(kind, q, 3)
            line = (space.unit(0), space.unit(2))
            self.assertEqual(one_or_all(space, space.unit(1), line), (space.unit(2),))
            self.assertEqual(one_or_all(space, space.unit(4), line), points_of(space, line))
            self.assertEqual(one_or_all(space, space.unit(0), line), points_of(space, line))


class Residues(unittest.TestCase):
    def check_residue(self, space, table):
        q, n = space.q, space.n
        rows, found = residue(space, table)
        pivots = [row.index(1) for row in table]
        expected = {
            x for x in walk(q, n) if not any(x[p] for p in pivots)
            and not any(product_of(space, x, y) for y in table)
        }
        self.assertTrue(looks_reduced(rows))
        self.assertEqual(span_set(q, rows, n), expected)
        self.assertIs(type(found), Space)
        self.assertEqual(told(found), (space.kind, q, pulled(*told(space), rows)))
        return found

    def test_walked(self):
        for space in drawn_spaces(Source(120), lambda kind, q: min(4, most_dimension(q, 260))):
            for k in range(space.n + 1):
                if singular_count(space, k) > 2000:
                    continue
                for table in singular_subspaces(space, k)[::11]:
                    found = self.check_residue(space, table)
                    if not set(span_set(space.q, table, space.n)) & set(
                        x for x in span_set(space.q, space.singular_radical(), space.n) if any(x)
                    ):
                        self.assertEqual(found.n, space.n - 2 * k)
                        self.assertEqual(witt_index(found), witt_index(space) - k)
                        self.assertEqual(len(found.radical()), len(space.radical()))

    def test_subspaces_above(self):
        for space in drawn_spaces(Source(121), lambda kind, q: min(4, most_dimension(q, 90))):
            for x in points(space)[::4]:
                _, found = residue(space, (x,))
                for k in range(1, 4):
                    above = [
                        table for table in singular_subspaces(space, k) if x in span_set(space.q, table, space.n)
                    ]
                    self.assertEqual(len(above), singular_count(found, k - 1))

    def test_six_dimensions(self):
        for kind, q in FORMS:
            space = hyperbolic(kind, q, 3)
            rows, found = residue(space, (space.unit(0),))
            self.assertEqual(rows, tuple(space.unit(i) for i in range(2, 6)))
            self.assertEqual(found, hyperbolic(kind, q, 2))
            rows, found = residue(space, (space.unit(0), space.unit(2), space.unit(4)))
            self.assertEqual((rows, found), ((), hyperbolic(kind, q, 0)))
            rows, found = residue(space, ())
            self.assertEqual((rows, found), (tuple(space.unit(i) for i in range(6)), space))

    def test_malformed(self):
        for kind, q in FORMS:
            space = hyperbolic(kind, q, 2)
            a, b, c, d = [space.unit(i) for i in range(4)]
            # No reduced tables, or tables that are not totally singular.
            wrong = [(c, a), (a, a), (slow_add(q, a, c), c), (a, b), (a, c, d), ((0, 0, 0, 0),), ((0, 1),), [a]]
            wrong += [([1, 0, 0, 0],), ((1, 0, 0, 0, 0),), (a, None), a, ((True, 0, 0, 0),), (a, b, c, d)]
            wrong.append(((q, 0, 0, 0),))
            if q > 2:
                wrong.append(((2, 0, 0, 0),))
            if kind != "alternating":
                wrong += [(slow_add(q, a, b),)] if (kind, q) != ("hermitian", 4) else [((1, 2, 0, 0),)]
            for table in wrong + odd_values():
                self.assertEqual(outcome(residue, space, table), "malformed", table)
            self.assertEqual(outcome(residue, space, ()), None)
        self.assertEqual(outcome(residue, Space("quadratic", 2, ((1,),)), ((1,),)), "malformed")
        self.assertEqual(outcome(residue, Space("alternating", 2, ((0,),)), ((1,),)), None)


if __name__ == "__main__":
    unittest.main()
