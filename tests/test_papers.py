import unittest
from itertools import product

from helper import FORMS, SIZES, Source, disguised, normals, odd_values
from maps import drawn_isometry, odd_rows, outcome, spaces_of, told, units
from multiplied import (
    barred, every_space, goes_on, holds_extension, holds_factors, holds_index, holds_isometry, holds_sign, images,
)
from wittspaces.build import hyperbolic, zero_space
from wittspaces.extension import extension
from wittspaces.isometry import Isometry
from wittspaces.normal import sign
from wittspaces.papers import extension_paper, factors_paper, index_paper, isometry_paper, sign_paper
from wittspaces.similar import greatest_singular, isometric, witt_index
from wittspaces.space import Space


class IsometryPapers(unittest.TestCase):
    def test_all_normal_forms(self):
        """Two bases of each normal form: the paper is of the kind that is due."""
        source = Source(400)
        for kind, q in FORMS:
            for n in range(5):
                forms = normals(kind, q, n)
                for (one, first), (two, second) in product(forms, forms):
                    a = Space(kind, q, disguised(source, kind, q, first))
                    b = Space(kind, q, disguised(source, kind, q, second))
                    found = isometry_paper(a, b)
                    self.assertEqual(found[0], "isometry" if one == two else "apart", (told(a), told(b)))
                    self.assertTrue(holds_isometry(a, b, found))

    def test_bigger_spaces(self):
        source = Source(401)
        for kind, q in FORMS:
            for n in (5, 6):
                forms = normals(kind, q, n)
                for one, two in zip(forms, forms[1:] + forms[:1]):
                    for other in (one, two):
                        a = Space(kind, q, disguised(source, kind, q, one[1]))
                        b = Space(kind, q, disguised(source, kind, q, other[1]))
                        found = isometry_paper(a, b)
                        self.assertEqual(found[0], "isometry" if one[0] == other[0] else "apart")
                        self.assertTrue(holds_isometry(a, b, found))

    def test_unlike(self):
        spaces = [zero_space(kind, q, n) for kind, q in FORMS for n in (0, 2)]
        spaces += [hyperbolic(kind, q, 1) for kind, q in FORMS]
        for a, b in product(spaces, spaces):
            found = isometry_paper(a, b)
            unlike = (a.kind, a.q, a.n) != (b.kind, b.q, b.n)
            self.assertEqual(found == ("unlike",), unlike)
            self.assertTrue(holds_isometry(a, b, found))
            self.assertEqual(found[0] == "isometry", isometric(a, b))

    def test_dimension_zero(self):
        for kind, q in FORMS:
            self.assertEqual(isometry_paper(zero_space(kind, q, 0), zero_space(kind, q, 0)), ("isometry", ()))


class ExtensionPapers(unittest.TestCase):
    def check(self, space, us, vs):
        found = extension_paper(space, us, vs)
        self.assertTrue(holds_extension(space, us, vs, found), (told(space), us, vs))
        due = "extension" if goes_on(space, us, vs) else "barrier"
        self.assertEqual(found[0], due)
        for one, two in ((list(us), vs), (us, list(vs)), (list(us), list(vs))):
            again = extension_paper(space, one, two)
            self.assertEqual(again[0], due)
            self.assertTrue(holds_extension(space, us, vs, again))
        return due

    def test_images(self):
        source = Source(402)
        for space in every_space(source, 4):
            for k in {0, space.n // 2, space.n} if space.q ** space.n < 3000 else {0, 1, 2}:
                self.assertEqual(self.check(space, *images(source, space, k)), "extension")

    def test_barriers(self):
        source, seen = Source(403), set()
        for space in every_space(source, 4):
            found = barred(source, space)
            if found is not None:
                self.assertEqual(self.check(space, *found), "barrier")
                seen.add((space.kind, space.q))
        self.assertEqual(seen, set(FORMS))

    def test_six_dimensions(self):
        source = Source(404)
        for kind, q in FORMS:
            for space in spaces_of(source, kind, q, 6)[::2]:
                us, vs = images(source, space, 2)
                found = extension_paper(space, us, vs)
                self.assertEqual(found[0], "extension")
                self.assertTrue(holds_extension(space, us, vs, found))

    def test_errors(self):
        """As `extension` raises them."""
        for kind, q in FORMS:
            for space in (zero_space(kind, q, 0), zero_space(kind, q, 2), hyperbolic(kind, q, 1)):
                unit = units(space.n)
                values = [unit, list(unit), (), unit[:1], unit[:1] * 2, None, "", space, {}, ((0,) * space.n,)]
                values += [(x,) for x in odd_rows(q, space.n)] + odd_values()[:12]
                for us, vs in product(values, values[:12]):
                    due = outcome(extension, space, us, vs)
                    self.assertEqual(outcome(extension_paper, space, us, vs), due)
                    self.assertEqual(outcome(extension_paper, space, vs, us), outcome(extension, space, vs, us))
        plane = hyperbolic("quadratic", 3, 1)
        self.assertEqual(outcome(extension_paper, plane, ((1, 0),), ()), "malformed")
        self.assertEqual(outcome(extension_paper, plane, ((1, 0), (2, 0)), ((1, 0), (2, 1))), "dependent")
        self.assertEqual(outcome(extension_paper, plane, ((1, 0),), ((1, 1),)), "partial")


class IndexPapers(unittest.TestCase):
    def test_all_normal_forms(self):
        for space in every_space(Source(405), 6):
            found = index_paper(space)
            self.assertTrue(holds_index(space, found), told(space))
            self.assertEqual(len(found[1]), witt_index(space))
            self.assertEqual(len(found[1]) + len(found[3]), len(greatest_singular(space)))

    def test_dimension_zero(self):
        for kind, q in FORMS:
            self.assertEqual(index_paper(zero_space(kind, q, 0)), ("index", (), (), ()))


class SignPapers(unittest.TestCase):
    def test_all_normal_forms(self):
        source, seen = Source(406), set()
        for q in SIZES:
            for n in (0, 2, 4):
                for space in spaces_of(source, "quadratic", q, n) * 2:
                    if not space.radical():
                        found = sign_paper(space)
                        self.assertTrue(holds_sign(space, found), told(space))
                        self.assertEqual(found[1], sign(space))
                        seen.add((q, n, found[1]))
        self.assertEqual(seen, {(q, n, e) for q in SIZES for n in (0, 2, 4) for e in (1, -1) if n or e == 1})

    def test_errors(self):
        for kind, q in FORMS:
            for n in range(7):
                for space in (*spaces_of(Source(407), kind, q, n), zero_space(kind, q, n)):
                    due = "kind" if kind != "quadratic" else "even" if n not in (0, 2, 4) else None
                    due = due or ("radical" if space.radical() else None)
                    self.assertEqual(outcome(sign_paper, space), due)


class FactorsPapers(unittest.TestCase):
    def test_drawn_isometries(self):
        source, seen = Source(408), set()
        for space in every_space(source, 6, [form for form in FORMS if form[0] != "hermitian"]):
            if space.radical() or (space.kind == "quadratic" and space.q in (2, 4)):
                continue
            for steps in (1, 5):
                f = Isometry(space, drawn_isometry(source, space, steps))
                found = factors_paper(f)
                self.assertTrue(holds_factors(f, found), told(space))
                seen.add((space.kind, space.q))
            f = Isometry(space, units(space.n))
            self.assertTrue(holds_factors(f, factors_paper(f)))
        self.assertEqual(seen, {form for form in FORMS if form[0] == "alternating" or
                                (form[0] == "quadratic" and form[1] % 2)})

    def test_errors(self):
        for kind, q in FORMS:
            for n in range(7):
                for space in (*spaces_of(Source(409), kind, q, n), zero_space(kind, q, n)):
                    due = "kind" if kind == "hermitian" else "two" if (kind, q % 2) == ("quadratic", 0) else None
                    due = due or ("radical" if space.radical() else None)
                    self.assertEqual(outcome(factors_paper, Isometry(space, units(n))), due)


if __name__ == "__main__":
    unittest.main()
