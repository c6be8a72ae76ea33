import unittest
from itertools import combinations

from helper import (
    FORMS, MINUS, PLUS, SIZES, Source, TIMES, disguised, looks_reduced, nested, odd_values, slow_add,
    slow_scaled, span_set, table_of, tables,
)
from maps import (
    drawn_isometry, odd_rows, outcome, product_of, spaces_of, times, told, units, value,
)
from wittspaces.build import hyperbolic, zero_space
from wittspaces.clifford import Clifford
from wittspaces.families import families, family_root, same_family, two_above
from wittspaces.isometry import Isometry
from wittspaces.normal import normal_space, sign
from wittspaces.pairing import pairing
from wittspaces.space import Space
from wittspaces.turns import dickson
from words import other_pairings, slow_multiply, slow_product

# The dimensions in which all tables can be walked.
WALKED = {2: (0, 2, 4), 3: (0, 2, 4), 4: (0, 2, 4), 5: (0, 2, 4), 7: (0, 2), 9: (0, 2)}


def hyperbolics(seed, dimensions=None):
    """Spaces with families, in drawn bases."""
    source = Source(seed)
    for q in SIZES:
        for n in (dimensions or WALKED)[q]:
            matrix = disguised(source, "quadratic", q, hyperbolic("quadratic", q, n // 2).matrix)
            yield Space("quadratic", q, matrix)


EVERY = {q: (0, 2, 4, 6) for q in SIZES}
UP_TO_FOUR = {q: (0, 2, 4) for q in SIZES}


def is_singular(space, table):
    return not any(value(space, x) for x in table) and not any(
        product_of(space, x, y) for x, y in combinations(table, 2)
    )


def greatest(space):
    """All greatest totally singular subspaces, by walking all tables."""
    return sorted(table for table in tables(space.q, space.n, space.n // 2) if is_singular(space, table))


def some_greatest(space):
    """Two of each family, made of the pairs of a hyperbolic space in the basis of this one."""
    q, n = space.q, space.n
    rows = units(n)
    back = [x for x in rows if value(space, x) == 0]
    assert len(back) == n
    found = []
    for choice in ((0,) * (n // 2), (1,) * (n // 2), (0,) * (n // 2 - 1) + (1,)):
        picked = [rows[2 * i + k] for i, k in enumerate(choice)]
        found.append(table_of(q, span_set(q, picked, n), n))
    return found


def is_right(space, one, m):
    """The reduced table of a totally singular subspace of the dimension m?"""
    if type(one) is not tuple or len(one) != m:
        return False
    for row in one:
        if type(row) is not tuple or len(row) != space.n:
            return False
        if any(type(c) is not int or not 0 <= c < space.q for c in row):
            return False
    return looks_reduced(one) and is_singular(space, one)


def common_dimension(q, one, two, n):
    both = span_set(q, one, n) & span_set(q, two, n)
    return [q ** k for k in range(n + 1)].index(len(both))


def image_table(f, table):
    q, n = f.space.q, f.space.n
    return table_of(q, span_set(q, times(q, table, f.matrix, n), n), n)


class Families(unittest.TestCase):
    def test_all_of_small_spaces(self):
        for space in hyperbolics(300):
            q, n, m = space.q, space.n, space.n // 2
            every = greatest(space)
            found = families(space)
            self.assertIs(type(found), tuple)
            first, second = found
            self.assertIs(type(first), tuple)
            self.assertIs(type(second), tuple)
            self.assertEqual(sorted(first + second), every, told(space))
            self.assertEqual((list(first), list(second)), (sorted(first), sorted(second)))
            self.assertEqual(first[0], every[0])
            self.assertEqual(len(first), 1 if n == 0 else len(every) // 2)
            self.assertEqual(len(second), 0 if n == 0 else len(every) // 2)
            source = Source(301)
            for _ in range(40):
                one, two = every[source.below(len(every))], every[source.below(len(every))]
                even = (m - common_dimension(q, one, two, n)) % 2 == 0
                self.assertIs(same_family(space, one, two), even)
                self.assertIs((one in first) == (two in first), even)

    def test_bigger_spaces(self):
        for q, n in ((2, 6), (3, 6), (4, 6), (7, 4)):
            matrix = disguised(Source(302), "quadratic", q, hyperbolic("quadratic", q, n // 2).matrix)
            space = Space("quadratic", q, matrix)
            first, second = families(space)
            many = 2 * (q + 1) * (q * q + 1) if n == 6 else 2 * (q + 1)
            self.assertEqual((len(first), len(second)), (many // 2, many // 2))
            self.assertEqual(len(set(first + second)), many)
            self.assertEqual((list(first), list(second)), (sorted(first), sorted(second)))
            self.assertLess(first[0], second[0])
            for table in first[::7] + second[::7]:
                self.assertTrue(looks_reduced(table) and len(table) == n // 2 and is_singular(space, table))
            for one, two, even in ((first[0], first[-1], 0), (second[1], second[-1], 0), (first[-1], second[0], 1)):
                self.assertEqual((n // 2 - common_dimension(q, one, two, n)) % 2, even)
                self.assertIs(same_family(space, one, two), even == 0)

    def test_isometries(self):
        """An isometry exchanges the families exactly if its Dickson invariant is 1."""
        seen = set()
        for space in hyperbolics(303, {q: (0, 2, 4, 6) if q < 4 else (0, 2, 4) for q in SIZES}):
            source = Source(304)
            normal = hyperbolic("quadratic", space.q, space.n // 2)
            for form in (space, normal):
                start = families(form)[0][0] if space.q < 9 or space.n < 4 else some_greatest(normal)[0]
                if form is space and space.q == 9 and space.n == 4:
                    continue
                for steps in (1, 2, 3):
                    f = Isometry(form, drawn_isometry(source, form, steps))
                    image = image_table(f, start)
                    swapped = dickson(f)
                    self.assertIs(same_family(form, start, image), swapped == 0)
                    self.assertIs(same_family(form, image, start), swapped == 0)
                    seen.add((space.q, swapped))
        self.assertEqual(seen, {(q, one) for q in SIZES for one in (0, 1)})

    def test_spaces_that_are_not_walked(self):
        """Beyond 4096 rows the families are refused, but two subspaces can be told apart."""
        for q, n in ((5, 6), (7, 6), (9, 4), (9, 6)):
            space = hyperbolic("quadratic", q, n // 2)
            self.assertEqual(outcome(families, space), "large")
            one, all_others, last = some_greatest(space)
            self.assertIs(same_family(space, one, one), True)
            self.assertIs(same_family(space, one, last), False)
            self.assertIs(same_family(space, one, all_others), n == 4)

    def test_dimension_zero(self):
        for q in SIZES:
            space = zero_space("quadratic", q, 0)
            self.assertEqual(families(space), (((),), ()))
            self.assertIs(same_family(space, (), ()), True)

    def test_told(self):
        self.assertEqual(families(hyperbolic("quadratic", 3, 1)), ((((0, 1),),), (((1, 0),),)))


class TwoAbove(unittest.TestCase):
    def test_against_all_greatest_ones(self):
        for space in hyperbolics(305):
            q, n, m = space.q, space.n, space.n // 2
            if n == 0:
                continue
            spans = {table: span_set(q, table, n) for table in greatest(space)}
            source = Source(306)
            below = [table for table in tables(q, n, m - 1) if is_singular(space, table)]
            for table in below if len(below) < 40 else [below[source.below(len(below))] for _ in range(12)]:
                expected = tuple(sorted(one for one, rows in spans.items() if all(x in rows for x in table)))
                self.assertEqual(len(expected), 2)
                found = two_above(space, table)
                self.assertEqual(found, expected, told(space))
                self.assertIs(same_family(space, *found), False)

    def test_bigger_spaces(self):
        """Also of more than 4096 rows."""
        for q, n in [(q, n) for q in SIZES for n in (4, 6)]:
            form = hyperbolic("quadratic", q, n // 2)
            f = Isometry(form, drawn_isometry(Source(308), form))
            for picked in (units(n)[:n - 2:2], units(n)[3::2]):
                table = image_table(f, picked)
                found = two_above(form, table)
                self.assertEqual(len(found), 2)
                self.assertLess(*found)
                for one in found:
                    self.assertTrue(looks_reduced(one) and len(one) == n // 2 and is_singular(form, one))
                    self.assertTrue(set(table) <= span_set(q, one, n))
                self.assertIs(same_family(form, *found), False)


class Roots(unittest.TestCase):
    def check_root(self, space, table, z, d, known):
        """`z p = l p`, multiplied out, with a root `l`."""
        q = space.q
        found = family_root(space, table, z)
        self.assertIn(found, range(q))
        p = slow_product(space, table, known)
        self.assertTrue(any(p))
        self.assertEqual(slow_multiply(space, z, p, known), slow_scaled(q, p, found))
        self.assertEqual(PLUS[q][PLUS[q][TIMES[q][found][found]][MINUS[q][found]]][d], 0)
        return found

    def test_families_are_told(self):
        for space in hyperbolics(310):
            q, source, known = space.q, Source(311), {}
            first, second = families(space)
            picked = [first[source.below(len(first))] for _ in range(3)]
            other = [second[source.below(len(second))] for _ in range(3)] if second else []
            z, d = pairing(space)
            pairings = list(other_pairings(space, z, d))
            self.assertEqual(len(pairings), q if q in (2, 4) else q - 1)
            minus = slow_scaled(q, z, MINUS[q][1])
            self.assertIn((slow_add(q, (1,) + (0,) * (len(z) - 1), minus), d), pairings)
            for changed, worth in pairings if space.n < 4 else pairings[:3]:
                roots = {self.check_root(space, table, changed, worth, known) for table in picked}
                self.assertEqual(len(roots), 1)
                others = {self.check_root(space, table, changed, worth, known) for table in other}
                self.assertFalse(roots & others)
                self.assertEqual(len(others), len(second[:1]))

    def test_more_rows_than_are_walked(self):
        space = hyperbolic("quadratic", 9, 2)
        z, d = pairing(space)
        one, two, last = some_greatest(space)
        roots = [self.check_root(space, table, z, d, {}) for table in (one, two, last)]
        self.assertEqual(roots[0], roots[1])
        self.assertNotEqual(roots[0], roots[2])

    def test_not_of_a_pairing(self):
        for space in hyperbolics(312, UP_TO_FOUR):
            if space.q == 9 and space.n == 4:
                continue
            q, table = space.q, families(space)[0][0]
            z, d = pairing(space)
            right = [changed for changed, _ in other_pairings(space, z, d)]
            wrong = odd_values() + [list(z), z + (0,), (z,), z[:-1], z[:-1] + (q,), z[:-1] + (True,), {}, space, (z, d)]
            wrong += [z[:-1] + (None,), nested(tuple, 60), Clifford(space)]
            wrong += Source(313).rows(q, len(z), 20)
            wrong += [z[:k] + (PLUS[q][c][1],) + z[k + 1:] for k, c in enumerate(z) if k]
            for one in wrong:
                if one not in right:
                    self.assertEqual(outcome(family_root, space, table, one), "pairing", (told(space), one))
            for one in right:
                self.assertIsNone(outcome(family_root, space, table, one))


class Errors(unittest.TestCase):
    def due(self, space):
        if space.kind != "quadratic":
            return "kind"
        if space.radical():
            return "radical"
        if space.n % 2 == 1:
            return "even"
        return "sign" if sign(space) == -1 else None

    def test_order(self):
        seen = set()
        for kind, q in FORMS:
            for n in range(7):
                for space in (*spaces_of(Source(314), kind, q, n), zero_space(kind, q, n)):
                    due = self.due(space)
                    seen.add(due)
                    if due is None:
                        continue
                    for table in ((), units(n)[:n // 2], None, [()], True):
                        self.assertEqual(outcome(same_family, space, table, table), due)
                        self.assertEqual(outcome(two_above, space, table), due)
                        self.assertEqual(outcome(family_root, space, table, None), due)
                    self.assertEqual(outcome(families, space), due)
        self.assertEqual(seen, {"kind", "radical", "even", "sign", None})

    def wrong_tables(self, space, m):
        """Values that are no reduced tables of singular subspaces of the dimension m."""
        q, n = space.q, space.n
        unit = units(n)
        right = tuple(unit[2 * i] for i in range(m))
        found = odd_values() + [space, {}, unit, (space,) * m, "0" * m, nested(tuple, 60), list(right)]
        found += [tuple(map(list, right)), right[::-1], right + ((0,) * n,)]
        found += [tuple(unit[2 * i] for i in range(k)) for k in range(n // 2 + 1) if k != m]
        if m:
            head = right[:-1]
            found += [head + (row,) for row in odd_rows(q, n)]
            # Dependent, not singular, not reduced.
            found += [head + ((0,) * n,), head + head[:1], head + (tuple(int(i >= n - 2) for i in range(n)),)]
            found += [head + (slow_scaled(q, unit[2 * m - 2], q - 1),)]
        return [one for one in found if not is_right(space, one, m)]

    def test_malformed(self):
        for q in SIZES:
            for m in range(4):
                space = hyperbolic("quadratic", q, m)
                right = tuple(units(2 * m)[2 * i] for i in range(m))
                for wrong in self.wrong_tables(space, m):
                    self.assertEqual(outcome(same_family, space, wrong, right), "malformed", wrong)
                    self.assertEqual(outcome(same_family, space, right, wrong), "malformed", wrong)
                    self.assertEqual(outcome(family_root, space, wrong, None), "malformed")
                    # Ahead of Refused("large").
                    self.assertEqual(outcome(family_root, space, wrong, pairing(space)[0] if m < 3 else 0), "malformed")
                self.assertIsNone(outcome(same_family, space, right, right))
                self.assertEqual(outcome(family_root, space, right, None), "large" if m == 3 else "pairing")
                for wrong in self.wrong_tables(space, m - 1) if m else [(), None, True, ((),)]:
                    self.assertEqual(outcome(two_above, space, wrong), "malformed" if m else "zero")
                self.assertEqual(outcome(two_above, space, right[:-1]), None if m else "zero")

    def test_large_and_many(self):
        for q in SIZES:
            for m in range(4):
                space = hyperbolic("quadratic", q, m)
                self.assertEqual(outcome(families, space), "large" if q ** (2 * m) > 4096 else None)

    def test_other_sign_of_six(self):
        for q in SIZES:
            space = normal_space("quadratic", q, (6, 0, 0, 1))
            mark = 1 if sign(space) == -1 else -1
            other = normal_space("quadratic", q, (6, 0, 0, mark))
            self.assertEqual(outcome(families, other), "sign")


if __name__ == "__main__":
    unittest.main()
