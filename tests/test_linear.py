import unittest

from helper import (
    SIZES, Source, independent, looks_reduced, odd_values, slow_add, slow_combine, slow_dot, slow_scaled, span_set,
    table_of, tables, walk,
)
from wittspaces.field import Field
from wittspaces.linear import (
    add, all_rows, combine, common_part, complement_rows, coordinates, dot, holds, is_row, is_space, kernel, reduced,
    relations, rest, scaled, solve, span, sum_of, unit_row,
)


def families(source, q, width, count):
    """Some tuples of `count` rows: any rows, dependent ones, and rows of zeros among them."""
    zeros = (0,) * width
    any_rows = source.rows(q, width, count)
    found = [any_rows, (zeros,) * count]
    if count > 1:
        found.append((*any_rows[:-1], slow_combine(q, any_rows[:-1], source.row(q, count - 1), width)))
        found.append((zeros, *any_rows[1:]))
        found.append((any_rows[0],) * count)
    return found


def cases(seed, most_rows=7000):
    """All fields, widths and numbers of rows from 0 to 4, with some rows of each."""
    source = Source(seed)
    for q in SIZES:
        for width in range(5):
            for count in range(5):
                if q ** max(width, count) <= most_rows:
                    for rows in families(source, q, width, count):
                        yield source, q, Field(q), width, rows


def free_places(table, width):
    pivots = [[c != 0 for c in row].index(True) for row in table]
    return [place for place in range(width) if place not in pivots]


class Rows(unittest.TestCase):
    def test_is_row(self):
        for q in SIZES:
            field = Field(q)
            for n in range(5):
                for row in [(0,) * n, (q - 1,) * n]:
                    self.assertIs(is_row(field, row, n), True)
                    self.assertIs(is_row(field, list(row), n), False)
                    self.assertIs(is_row(field, row, n + 1), False)
                    self.assertIs(is_row(field, (*row, 0), n), False)
                    for wrong in (q, -1, True, False, None, "0", (0,)):
                        for i in range(n):
                            self.assertIs(is_row(field, (*row[:i], wrong, *row[i + 1:]), n), False)
                for value in odd_values():
                    self.assertIs(is_row(field, value, n), False, value)
            self.assertIs(is_row(field, (), 0), True)

    def test_unit_row(self):
        self.assertEqual([unit_row(3, i) for i in range(3)], [(1, 0, 0), (0, 1, 0), (0, 0, 1)])

    def test_items(self):
        source = Source(1)
        for q in SIZES:
            field = Field(q)
            for n in range(5):
                for _ in range(12):
                    v, w, c = source.row(q, n), source.row(q, n), source.below(q)
                    self.assertEqual(add(field, v, w), slow_add(q, v, w))
                    self.assertEqual(scaled(field, v, c), slow_scaled(q, v, c))
                    self.assertEqual(dot(field, v, w), slow_dot(q, v, w))

    def test_combine(self):
        for source, q, field, width, rows in cases(2, 10 ** 6):
            weights = source.row(q, len(rows))
            expected = slow_combine(q, rows, weights, width)
            self.assertEqual(combine(field, rows, weights, width), expected)
            self.assertEqual(combine(field, list(rows), list(weights), width), expected)
        self.assertEqual(combine(Field(3), (), (), 2), (0, 0))


class Tables(unittest.TestCase):
    def test_reduced(self):
        for _, q, field, width, rows in cases(3, 10 ** 6):
            kept = list(rows)
            table, pivots = reduced(field, kept, width)
            self.assertEqual(kept, list(rows))
            self.assertEqual(reduced(field, rows, width), (table, pivots))
            self.assertTrue(looks_reduced(table))
            self.assertEqual(pivots, tuple(row.index(1) for row in table))
            self.assertIs(type(pivots), tuple)
            self.assertEqual(span(field, rows, width), table)
            self.assertIs(is_space(field, table, width), True)
            if q ** width <= 800:
                walked = span_set(q, rows, width)
                self.assertEqual(span_set(q, table, width), walked)
                self.assertEqual(table, table_of(q, walked, width))
            else:
                self.assertTrue(span_set(q, table, width) == span_set(q, rows, width))

    def test_one_table_for_a_space(self):
        source = Source(4)
        for q in SIZES:
            for k in range(4):
                for table in tables(q, 3, k)[:40]:
                    mixed = [slow_combine(q, table, source.row(q, k), 3) for _ in range(k)]
                    self.assertEqual(span(Field(q), [*mixed, *reversed(table)], 3), table)

    def test_is_space_of_changed_tables(self):
        for q in (2, 3, 4):
            field = Field(q)
            for width in range(4):
                for k in range(width + 1):
                    for table in tables(q, width, k):
                        self.check_changes(q, field, width, table)

    def check_changes(self, q, field, width, table):
        self.assertIs(is_space(field, table, width), True)
        self.assertIs(is_space(field, list(table), width), False)
        self.assertIs(is_space(field, table + ((0,) * width,), width), False)
        self.assertIs(is_space(field, table, width + 1), table == ())
        for i, row in enumerate(table):
            self.assertIs(is_space(field, (*table[:i], list(row), *table[i + 1:]), width), False)
            for j in range(width):
                for c in (*range(q), q, True, None):
                    other = (*table[:i], (*row[:j], c, *row[j + 1:]), *table[i + 1:])
                    right = type(c) is int and c < q and looks_reduced(other)
                    self.assertIs(is_space(field, other, width), right, other)

    def test_is_space_of_odd_values(self):
        for q in SIZES:
            for width in range(3):
                for value in odd_values():
                    self.assertIs(is_space(Field(q), value, width), False, value)
                self.assertIs(is_space(Field(q), (), width), True)
                self.assertIs(is_space(Field(q), ((),), width), False)
        self.assertIs(is_space(Field(3), ((0, 1), (1, 0)), 2), False)
        self.assertIs(is_space(Field(3), ((2, 0),), 2), False)


class Equations(unittest.TestCase):
    def test_kernel(self):
        for _, q, field, width, rows in cases(5):
            found = kernel(field, rows, width)
            walked = {x for x in walk(q, width) if not any(slow_dot(q, x, row) for row in rows)}
            self.assertTrue(looks_reduced(found))
            self.assertEqual(span_set(q, found, width), walked)
            self.assertEqual(kernel(field, list(rows), width), found)

    def test_relations(self):
        for _, q, field, width, rows in cases(6):
            found = relations(field, rows, width)
            zeros = (0,) * width
            walked = {w for w in walk(q, len(rows)) if slow_combine(q, rows, w, width) == zeros}
            self.assertTrue(looks_reduced(found))
            self.assertEqual(span_set(q, found, len(rows)), walked)

    def test_solve(self):
        for source, q, field, width, rows in cases(7):
            table = span(field, rows, width)
            right_sides = {source.row(q, len(rows)) for _ in range(4)}
            x = source.row(q, width)
            right_sides.add(tuple(slow_dot(q, x, row) for row in rows))
            images = {tuple(slow_dot(q, x, row) for row in rows) for x in walk(q, width)}
            for right in right_sides:
                found = solve(field, rows, width, right)
                self.assertEqual(found, solve(field, list(rows), width, list(right)))
                self.assertIs(found is None, right not in images)
                if found is not None:
                    self.assertTrue(is_row(field, found, width))
                    self.assertEqual(tuple(slow_dot(q, found, row) for row in rows), right)
                    self.assertFalse(any(found[place] for place in free_places(table, width)))

    def test_coordinates(self):
        for source, q, field, width, rows in cases(8):
            if not independent(q, rows, width):
                continue
            walked = span_set(q, rows, width)
            weights = source.row(q, len(rows))
            self.assertEqual(coordinates(field, rows, slow_combine(q, rows, weights, width)), weights)
            for _ in range(4):
                v = source.row(q, width)
                found = coordinates(field, list(rows), v)
                self.assertIs(found is None, v not in walked)
                if found is not None:
                    self.assertIs(type(found), tuple)
                    self.assertEqual(slow_combine(q, rows, found, width), v)


class Spaces(unittest.TestCase):
    def test_holds_and_rest(self):
        for source, q, field, width, rows in cases(9):
            table = span(field, rows, width)
            walked = span_set(q, rows, width)
            pivots = [row.index(1) for row in table]
            for v in [source.row(q, width) for _ in range(6)] + list(rows):
                self.assertIs(holds(field, table, v), v in walked)
                left = rest(field, table, v)
                self.assertFalse(any(left[p] for p in pivots))
                self.assertIn(slow_add(q, v, slow_scaled(q, left, field.negative(1))), walked)

    def test_sums_and_common_parts(self):
        for source, q, field, width, rows in cases(10):
            a = span(field, rows, width)
            for others in (source.rows(q, width, 1), source.rows(q, width, 2), (*rows[:1], source.row(q, width))):
                b = span(field, others, width)
                both = sum_of(field, a, b, width)
                self.assertTrue(looks_reduced(both))
                self.assertEqual(span_set(q, both, width), span_set(q, (*a, *b), width))
                common = common_part(field, a, b, width)
                self.assertTrue(looks_reduced(common))
                expected = span_set(q, a, width) & span_set(q, b, width)
                self.assertEqual(span_set(q, common, width), expected)

    def test_complement_rows(self):
        for _, q, field, width, rows in cases(11, 10 ** 6):
            table = span(field, rows, width)
            found = complement_rows(table, width)
            self.assertEqual(found, tuple(unit_row(width, place) for place in free_places(table, width)))

    def test_all_rows(self):
        for _, q, field, width, rows in cases(12):
            table = span(field, rows, width)
            found = all_rows(field, table, width)
            self.assertIs(iter(found), found)
            self.assertEqual(list(found), sorted(span_set(q, rows, width)))
        self.assertEqual(list(all_rows(Field(5), (), 3)), [(0, 0, 0)])

    def test_document_example(self):
        self.assertEqual(span(Field(4), ((2, 0, 1), (0, 0, 3)), 3), ((1, 0, 0), (0, 0, 1)))


if __name__ == "__main__":
    unittest.main()
