import unittest

from helper import FORMS, Source, invertibles, most_dimension, slow_moved, walk
from maps import all_isometries, drawn_spaces, inverse_of, outcome, spaces_of, times, told, units, value
from wittspaces.build import hyperbolic, zero_space
from wittspaces.counts import value_counts
from wittspaces.groups import group_order, isometries
from wittspaces.isometry import is_isometry
from wittspaces.kinds import reflection
from wittspaces.normal import normal_space
from wittspaces.space import Space

# The greatest dimensions whose rows, in number, are walked by pairs.
SMALL = {("alternating", 2): 4, ("quadratic", 2): 4, ("alternating", 3): 2, ("quadratic", 3): 3}


class Orders(unittest.TestCase):
    def test_against_all_matrices(self):
        for space in drawn_spaces(Source(170), lambda kind, q: SMALL.get((kind, q), most_dimension(q, 17))):
            if group_order(space) > 5000:
                continue
            every = all_isometries(space)
            self.assertEqual(group_order(space), len(every), told(space))
            if len(every) <= 2000:
                self.assertEqual(isometries(space), tuple(every))

    def test_by_definition(self):
        """For the smallest spaces by the values of all rows."""
        for kind, q, n in (("quadratic", 2, 2), ("quadratic", 3, 2), ("hermitian", 4, 2), ("quadratic", 2, 3)):
            for space in spaces_of(Source(171), kind, q, n):
                values = {x: value(space, x) for x in walk(q, n)}
                every = [
                    matrix for matrix in invertibles(q, n)
                    if all(values[slow_moved(q, x, matrix, n)] == values[x] for x in values)
                ]
                self.assertEqual(isometries(space), tuple(sorted(every)))

    def test_of_zero_spaces(self):
        """All matrices with an inverse."""
        for kind, q in FORMS:
            expected = 1
            for n in range(7):
                self.assertEqual(group_order(zero_space(kind, q, n)), expected)
                # One more row: it goes anywhere outside the others' images.
                expected = expected * (q ** (n + 1) - 1) * q ** n

    def test_by_orbits(self):
        """By the pairs of points of value 0 with the product 1, and the space beside them."""
        for kind, q in FORMS:
            for n in (3, 4, 5, 6):
                for space in spaces_of(Source(172), kind, q, n - 2):
                    whole = self.beside_plane(space)
                    zeros = value_counts(whole)[0] - q ** len(whole.singular_radical())
                    partners = q ** (n - 2) if kind == "quadratic" else q ** (n - 1)
                    if kind == "hermitian":
                        # Of the rows with the product 1 each p-th one has the value 0.
                        partners = partners // whole.field.p
                    self.assertEqual(group_order(whole), zeros * partners * group_order(space))

    def beside_plane(self, space):
        plane = hyperbolic(space.kind, space.q, 1)
        first = tuple((*row, *space.zero()) for row in plane.matrix)
        return Space(space.kind, space.q, first + tuple((0, 0, *row) for row in space.matrix))

    def test_told_orders(self):
        for kind, q, numbers, order in (
            ("alternating", 2, (4, 0, 0, 0), 720), ("alternating", 2, (6, 0, 0, 0), 1451520),
            ("alternating", 3, (4, 0, 0, 0), 51840), ("quadratic", 2, (4, 0, 0, 1), 72),
            ("quadratic", 2, (4, 0, 0, -1), 120), ("quadratic", 2, (6, 0, 0, 1), 40320),
            ("quadratic", 2, (6, 0, 0, -1), 51840), ("quadratic", 2, (5, 1, 0, 0), 720),
            ("quadratic", 3, (3, 0, 0, 1), 48), ("quadratic", 3, (4, 0, 0, 1), 1152),
            ("quadratic", 3, (5, 0, 0, 1), 103680), ("hermitian", 4, (3, 0, 0, 0), 648),
            ("hermitian", 4, (4, 0, 0, 0), 77760), ("hermitian", 9, (3, 0, 0, 0), 24192),
            ("hermitian", 4, (1, 0, 0, 0), 3), ("hermitian", 9, (1, 0, 0, 0), 4), ("quadratic", 5, (1, 0, 0, -1), 2),
            ("quadratic", 4, (1, 1, 0, 0), 1), ("quadratic", 9, (0, 0, 0, 1), 1), ("quadratic", 9, (2, 0, 0, 1), 16),
            ("quadratic", 9, (2, 0, 0, -1), 20),
        ):
            self.assertEqual(group_order(normal_space(kind, q, numbers)), order)
        self.assertEqual(group_order(Space("alternating", 2, ((0, 1), (1, 0)))), 6)


class Lists(unittest.TestCase):
    def test_against_orders(self):
        """Each listed matrix is an isometry, and there are as many as counted."""
        for kind, q in FORMS:
            for n in range(7):
                if q ** n > 4096:
                    continue
                for space in spaces_of(Source(173), kind, q, n):
                    order = group_order(space)
                    if order > 2000:
                        self.assertEqual(outcome(isometries, space), "many")
                        continue
                    found = isometries(space)
                    self.assertIs(type(found), tuple)
                    self.assertEqual(len(found), order)
                    self.assertTrue(all(one < two for one, two in zip(found, found[1:])))
                    for matrix in found[::37]:
                        self.assertIs(is_isometry(space, matrix), True)

    def test_closed(self):
        for space in drawn_spaces(Source(174), lambda kind, q: most_dimension(q, 90)):
            if group_order(space) > 500:
                continue
            every = isometries(space)
            inside = set(every)
            self.assertIn(units(space.n), inside)
            for one in every[::29]:
                products = {times(space.q, one, two, space.n) for two in every}
                self.assertEqual(products, inside)

    def test_large_comes_first(self):
        for kind, q in FORMS:
            for n in range(7):
                if q ** n > 4096:
                    for space in (*spaces_of(Source(175), kind, q, n), zero_space(kind, q, n)):
                        self.assertEqual(outcome(isometries, space), "large")
                        self.assertGreater(group_order(space), 2000)
                elif q ** (n + 1) > 4096:
                    self.assertEqual(outcome(isometries, zero_space(kind, q, n)), "many")

    def test_at_the_bounds(self):
        space = spaces_of(Source(176), "quadratic", 2, 5)
        found = {group_order(one): one for one in space}
        self.assertEqual(len(isometries(found[1920])), 1920)
        self.assertEqual(group_order(zero_space("alternating", 7, 2)), 2016)
        self.assertEqual(outcome(isometries, zero_space("alternating", 7, 2)), "many")

    def test_told_lists(self):
        self.assertEqual(isometries(zero_space("hermitian", 4, 0)), ((),))
        self.assertEqual(isometries(Space("quadratic", 7, ((3,),))), (((1,),), ((6,),)))
        self.assertEqual(isometries(Space("quadratic", 4, ((3,),))), (((1,),),))
        self.assertEqual(isometries(Space("hermitian", 4, ((1,),))), (((1,),), ((2,),), ((3,),)))
        self.assertEqual(isometries(hyperbolic("quadratic", 2, 1)), (((0, 1), (1, 0)), ((1, 0), (0, 1))))
        for q in (3, 5):
            expected = [((0, c), (inverse_of(q, c), 0)) for c in range(1, q)]
            expected += [((c, 0), (0, inverse_of(q, c))) for c in range(1, q)]
            self.assertEqual(isometries(hyperbolic("quadratic", q, 1)), tuple(expected))
        plane = hyperbolic("quadratic", 3, 1)
        self.assertIn(reflection(plane, (1, 1)).matrix, isometries(plane))


if __name__ == "__main__":
    unittest.main()
