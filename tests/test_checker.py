import ast
import unittest
from itertools import product
from pathlib import Path

from helper import (
    FORMS, KINDS, MINUS, PLUS, SIZES, Source, TIMES, disguised, nested, normals, odd_values, slow_add, slow_scaled,
    walk,
)
from maps import drawn_isometry, inverse_of, odd_matrices, odd_rows, spaces_of, times, told, units, value
from multiplied import (
    barred, every_space, holds_extension, holds_factors, holds_index, holds_isometry, holds_sign, images, some_spoilt,
    spoilt,
)
from wittspaces.build import hyperbolic, zero_space
from wittspaces.checker import takes_extension, takes_factors, takes_index, takes_isometry, takes_sign
from wittspaces.clifford import Clifford
from wittspaces.console import Console
from wittspaces.field import Field
from wittspaces.isometry import Isometry
from wittspaces.normal import normal_space
from wittspaces.papers import extension_paper, factors_paper, index_paper, isometry_paper, sign_paper
from wittspaces.replies import Reply
from wittspaces.space import Space
from words import other_pairings, slow_multiply, slow_product

HEADS = ("isometry", "apart", "unlike", "extension", "barrier", "index", "sign", "factors")
# One bigger than this is drawn from, not walked.
MOST = 40


def odd_papers():
    """Values that are no papers of anything."""
    space = hyperbolic("quadratic", 3, 1)
    found = odd_values() + list(HEADS) + [(word,) for word in HEADS if word != "unlike"]
    found += [[word] for word in HEADS] + [((word,),) for word in HEADS] + [{"unlike": 1}, ["unlike"], (("unlike",),)]
    found += [(word, None) for word in HEADS] + [(word, True) for word in HEADS] + [(word, ()) for word in "xyz"]
    found += [(word, nested(tuple, 58)) for word in HEADS] + [(word, nested(list, 58)) for word in HEADS]
    found += [nested(tuple, 60), nested(list, 60), (nested(tuple, 59),) * 4, ("unlike", ()), ("unlike", None), ()]
    found += [space, (space,), (space, space), Isometry(space, units(2)), Clifford(space), Field(3), Console()]
    found += [Reply(""), (Console(), Console()), (Reply("sign"), 1, (1, 0, 0, 0), 0), ("sign", space, space, space)]
    found += [("index", space, space, space), ("index", (space,), (space,), (space,))]
    found += [("index", ((space,) * 2,), (), ())]
    return found


def mixed_values(q, n):
    """Nested tuples and lists of words, rows, numbers and odd values, with the words of papers in front."""
    source = Source(q + 10 * n)
    leaves = [0, 1, 2, -1, q, True, False, None, "", "sign", (), [], (0,) * n, (1,) * n, [0] * n]
    leaves += [units(n), list(units(n))]

    def drawn(depth):
        if depth == 0 or source.below(3) == 0:
            return leaves[source.below(len(leaves))]
        inner = [drawn(depth - 1) for _ in range(source.below(4))]
        return inner if source.below(5) == 0 else tuple(inner)

    for _ in range(60):
        inner = [drawn(3) for _ in range(source.below(4))]
        yield (HEADS[source.below(len(HEADS))], *inner)


class Isometries(unittest.TestCase):
    def check(self, a, b, paper):
        found = takes_isometry(a, b, paper)
        self.assertIs(found, holds_isometry(a, b, paper), (told(a), told(b), paper))
        return found

    def test_papers_of_the_program(self):
        source = Source(420)
        for kind, q in FORMS:
            for n in range(7):
                forms = normals(kind, q, n)
                for (_, one), (_, two) in product(forms, forms) if n < 4 else zip(forms, forms[1:] + forms[:1]):
                    a = Space(kind, q, disguised(source, kind, q, one))
                    b = Space(kind, q, disguised(source, kind, q, two))
                    for other in (a, b, Space(kind, q, disguised(source, kind, q, one))):
                        self.assertIs(takes_isometry(a, other, isometry_paper(a, other)), True)

    def test_spoilt_papers(self):
        source = Source(421)
        taken = 0
        for kind, q in FORMS:
            for n in range(4):
                forms = normals(kind, q, n)
                for (_, one), (_, two) in [(x, x) for x in forms] + list(zip(forms, forms[1:])):
                    a = Space(kind, q, disguised(source, kind, q, one))
                    b = Space(kind, q, disguised(source, kind, q, two))
                    for paper in some_spoilt(source, q, isometry_paper(a, b), MOST):
                        taken += self.check(a, b, paper)
        self.assertGreater(taken, 20)

    def test_all_matrices(self):
        for kind, q, n in (("quadratic", 2, 2), ("alternating", 2, 2), ("hermitian", 4, 1), ("quadratic", 5, 1)):
            spaces = [Space(kind, q, matrix) for _, matrix in normals(kind, q, n)]
            spaces += [Space(kind, q, disguised(Source(422), kind, q, one.matrix)) for one in spaces]
            matrices = list(product(walk(q, n), repeat=n))
            for a, b in product(spaces, spaces):
                for matrix in matrices:
                    self.check(a, b, ("isometry", matrix))
                for first, second in product(matrices, matrices):
                    self.check(a, b, ("apart", first, second))

    def test_apart_must_be_normal(self):
        """Unlike matrices of isometric spaces show nothing, and neither do equal normal forms."""
        for kind, q in FORMS:
            for n in (1, 2, 3):
                for _, matrix in normals(kind, q, n):
                    a = Space(kind, q, matrix)
                    b = Space(kind, q, disguised(Source(423), kind, q, matrix))
                    self.assertIs(takes_isometry(a, b, ("apart", units(n), units(n))), False)
                    self.assertIs(takes_isometry(a, a, ("apart", units(n), units(n))), False)
                    self.assertIs(takes_isometry(a, a, ("isometry", units(n))), True)

    def test_all_normal_forms_are_known(self):
        for kind, q in FORMS:
            for n in range(7):
                forms = [Space(kind, q, matrix) for _, matrix in normals(kind, q, n)]
                for a, b in product(forms, forms):
                    self.assertIs(takes_isometry(a, b, ("apart", units(n), units(n))), a != b)

    def test_unlike(self):
        spaces = [zero_space(kind, q, n) for kind, q in FORMS for n in (0, 2)]
        spaces += [hyperbolic(kind, q, 1) for kind, q in FORMS]
        for a, b in product(spaces, spaces):
            unlike = (a.kind, a.q, a.n) != (b.kind, b.q, b.n)
            self.assertIs(takes_isometry(a, b, ("unlike",)), unlike)
            for n in {a.n, b.n}:
                self.check(a, b, ("isometry", units(n)))
                self.check(a, b, ("apart", units(n), units(n)))
            self.assertIs(takes_isometry(a, b, ("unlike", ())), False)

    def test_dimension_zero(self):
        for kind, q in FORMS:
            a = zero_space(kind, q, 0)
            self.assertIs(takes_isometry(a, a, ("isometry", ())), True)
            for wrong in (("apart", (), ()), ("unlike",), ("isometry", []), ["isometry", ()], ("isometry", ((),))):
                self.assertIs(takes_isometry(a, a, wrong), False)

    def test_odd_values(self):
        spaces = [hyperbolic(kind, q, 1) for kind, q in FORMS if q in (2, 4, 9)]
        for a, b in product(spaces, spaces):
            for paper in odd_papers():
                self.assertIs(takes_isometry(a, b, paper), False, paper)
            for matrix in odd_matrices(a.q, a.n):
                self.assertIs(takes_isometry(a, b, ("isometry", matrix)), False)
                self.assertIs(takes_isometry(a, b, ("apart", matrix, units(2))), False)
                self.assertIs(takes_isometry(a, b, ("apart", units(2), matrix)), False)
        for kind, q in FORMS:
            for space in spaces_of(Source(424), kind, q, 2):
                for paper in mixed_values(q, 2):
                    self.check(space, space, paper)


class Extensions(unittest.TestCase):
    def check(self, space, us, vs, paper):
        found = takes_extension(space, us, vs, paper)
        self.assertIs(found, holds_extension(space, us, vs, paper), (told(space), us, vs, paper))
        self.assertIs(takes_extension(space, list(us), list(vs), paper), found)
        return found

    def partials(self, source, most):
        for space in every_space(source, most):
            for k in {0, space.n // 2, space.n} if space.q ** space.n < 3000 else {0, 1, 2}:
                yield (space, *images(source, space, k))
            found = barred(source, space)
            if found is not None:
                yield (space, *found)

    def test_papers_of_the_program(self):
        for space, us, vs in self.partials(Source(430), 4):
            paper = extension_paper(space, us, vs)
            self.assertIs(takes_extension(space, us, vs, paper), True)
            self.assertIs(takes_extension(space, list(us), list(vs), paper), True)
            # Papers of the other kind do not hold.
            if paper[0] == "extension":
                for weights in walk(space.q, len(us))[:30]:
                    self.assertIs(takes_extension(space, us, vs, ("barrier", weights)), False)
            else:
                matrix = drawn_isometry(Source(431), space)
                self.assertIs(takes_extension(space, us, vs, ("extension", matrix)), False)
                self.assertIs(takes_extension(space, us, vs, ("extension", units(space.n))), False)

    def test_spoilt_papers(self):
        source, taken = Source(432), 0
        for space, us, vs in self.partials(source, 3):
            for paper in some_spoilt(source, space.q, extension_paper(space, us, vs), 15):
                taken += self.check(space, us, vs, paper)
        self.assertGreater(taken, 20)

    def test_all_papers_of_small_spaces(self):
        source = Source(433)
        for kind, q, n in (("quadratic", 2, 2), ("alternating", 2, 3), ("quadratic", 3, 2), ("hermitian", 4, 2)):
            for space in spaces_of(source, kind, q, n):
                found = [images(source, space, 1), barred(source, space)]
                for us, vs in [one for one in found if one is not None]:
                    every = list(product(walk(q, n), repeat=n))
                    for _ in range(120):
                        self.check(space, us, vs, ("extension", every[source.below(len(every))]))
                    for weights in walk(q, len(us)):
                        self.check(space, us, vs, ("barrier", weights))

    def test_isometries_that_do_not_fit(self):
        """Isometries, and maps that fit but are none."""
        source = Source(434)
        for space in every_space(source, 3):
            if space.n:
                us, vs = images(source, space, 1)
                for _ in range(6):
                    self.check(space, us, vs, ("extension", drawn_isometry(source, space)))
                    self.check(space, us, vs, ("extension", source.rows(space.q, space.n, space.n)))

    def test_odd_values(self):
        for kind, q in FORMS:
            for space in (hyperbolic(kind, q, 1), zero_space(kind, q, 0)):
                for us in ((), units(space.n)[:1]):
                    for paper in odd_papers():
                        if us or paper != ("extension", ()):
                            self.assertIs(takes_extension(space, us, us, paper), holds_extension(space, us, us, paper))
                    for matrix in odd_matrices(q, space.n):
                        self.assertIs(takes_extension(space, us, us, ("extension", matrix)), False)
                    for weights in odd_rows(q, len(us)):
                        self.assertIs(takes_extension(space, us, us, ("barrier", weights)), False)
                    for paper in mixed_values(q, space.n):
                        self.check(space, us, us, paper)


class Indexes(unittest.TestCase):
    def check(self, space, paper):
        found = takes_index(space, paper)
        self.assertIs(found, holds_index(space, paper), (told(space), paper))
        return found

    def test_papers_of_the_program(self):
        for space in every_space(Source(440), 6):
            word, pairs, rest, zeros = index_paper(space)
            self.assertIs(takes_index(space, (word, pairs, rest, zeros)), True)
            if len(pairs) > 1:
                self.assertIs(takes_index(space, (word, pairs[::-1], rest, zeros[::-1])), True)

    def test_spoilt_papers(self):
        source, taken = Source(441), 0
        for space in every_space(source, 4):
            for paper in some_spoilt(source, space.q, index_paper(space), 30):
                taken += self.check(space, paper)
        self.assertGreater(taken, 100)

    def test_all_papers_of_small_spaces(self):
        for kind, q, n in (("quadratic", 2, 2), ("quadratic", 3, 2), ("alternating", 3, 2), ("hermitian", 4, 1),
                           ("quadratic", 4, 1), ("quadratic", 5, 1), ("alternating", 2, 1)):
            for space in spaces_of(Source(442), kind, q, n):
                rows = walk(q, n)
                for x in rows:
                    for paper in ((), (x,), ()), ((), (), (x,)), (((x, x),), (), ()):
                        self.check(space, ("index", *paper))
                for x, y in product(rows, rows) if n > 1 else ():
                    for paper in (((x, y),), (), ()), ((), (x, y), ()), ((), (x,), (y,)), ((), (), (x, y)):
                        self.check(space, ("index", *paper))

    def test_bases_that_do_not_fit(self):
        """The rows moved, and given to the wrong parts."""
        source = Source(443)
        for space in every_space(source, 5):
            word, pairs, rest, zeros = index_paper(space)
            flat = tuple(x for pair in pairs for x in pair)
            found = [((), flat + rest, zeros), (pairs[1:], flat[:2] + rest, zeros), (pairs, rest + zeros, ()),
                     (pairs, (), rest + zeros), (pairs, zeros, rest), (pairs + pairs[:1], rest, zeros),
                     (tuple((y, x) for x, y in pairs), rest, zeros), ((), (), flat + rest + zeros),
                     (pairs[1:], rest, zeros + flat[:2])]
            if len(flat) > 2:
                swapped = ((flat[0], flat[3]), (flat[2], flat[1])) + pairs[2:]
                # The product of rows of unlike pairs is not 0, but all else holds.
                moved = tuple(PLUS[space.q][c][d] for c, d in zip(flat[1], flat[2]))
                found += [(swapped, rest, zeros), (((flat[0], moved),) + pairs[1:], rest, zeros)]
            if zeros and pairs:
                moved = tuple(PLUS[space.q][c][d] for c, d in zip(flat[0], zeros[0]))
                found += [(((moved, flat[1]),) + pairs[1:], rest, zeros), (pairs, rest, (moved,) + zeros[1:])]
            if zeros and rest:
                moved = tuple(PLUS[space.q][c][d] for c, d in zip(rest[0], zeros[0]))
                found += [(pairs, (moved,) + rest[1:], zeros), (pairs, rest, (moved,) + zeros[1:])]
            for parts in found:
                self.check(space, (word, *parts))

    def test_many_rows(self):
        """More than three rows in the rest are not walked."""
        for kind, q in FORMS:
            for space in spaces_of(Source(444), kind, q, 6):
                self.assertIs(takes_index(space, ("index", (), units(6), ())), False)
                self.assertIs(takes_index(space, ("index", (), units(6)[:4], units(6)[4:])), False)
                self.assertIs(takes_index(space, ("index", (), units(6) * 50, ())), False)
                self.assertIs(takes_index(space, ("index", ((units(6)[0],) * 2,) * 50, (), ())), False)

    def test_dimension_zero(self):
        for kind, q in FORMS:
            space = zero_space(kind, q, 0)
            self.assertIs(takes_index(space, ("index", (), (), ())), True)
            for wrong in (("index", (), ()), ("index", ((),), (), ()), ("index", (), ((),), ()), ("index", [], (), ())):
                self.assertIs(takes_index(space, wrong), False)
            for wrong in (("index", (), (), ((),)), ["index", (), (), ()], ("index", (), (), (), ()),
                          ("index", (((), ()),), (), ())):
                self.assertIs(takes_index(space, wrong), False)

    def test_odd_values(self):
        for kind, q in FORMS:
            for space in (hyperbolic(kind, q, 1), zero_space(kind, q, 1)):
                for paper in odd_papers():
                    self.assertIs(takes_index(space, paper), False)
                for wrong in odd_values() + odd_rows(q, space.n):
                    if wrong != ():
                        self.check(space, ("index", wrong, (), ()))
                        self.check(space, ("index", (wrong,), (), ()))
                        self.check(space, ("index", ((wrong, wrong),), (), ()))
                        self.check(space, ("index", (), wrong, ()))
                        self.check(space, ("index", (), (), wrong))
                        self.check(space, ("index", (), (wrong,) * space.n, ()))
                        self.check(space, ("index", (), (), (wrong,) * space.n))
                for paper in mixed_values(q, space.n):
                    self.check(space, paper)


class Signs(unittest.TestCase):
    def whole(self, source, most=4):
        for q in SIZES:
            for n in range(0, most + 1, 2):
                for space in spaces_of(source, "quadratic", q, n):
                    if not space.radical():
                        yield space

    def check(self, space, paper, known):
        found = takes_sign(space, paper)
        self.assertIs(found, holds_sign(space, paper, known), (told(space), paper))
        return found

    def test_papers_of_the_program(self):
        source = Source(450)
        for space in self.whole(source):
            word, sign, z, d = sign_paper(space)
            self.assertIs(takes_sign(space, (word, sign, z, d)), True)
            self.assertIs(takes_sign(space, (word, -sign, z, d)), False)
            for other, worth in other_pairings(space, z, d):
                self.assertIs(takes_sign(space, (word, sign, other, worth)), True)
                self.assertIs(takes_sign(space, (word, -sign, other, worth)), False)

    def test_spoilt_papers(self):
        source = Source(451)
        for space in self.whole(source):
            known = {}
            for paper in some_spoilt(source, space.q, sign_paper(space), 60):
                self.check(space, paper, known)

    def test_all_papers_of_small_spaces(self):
        taken = 0
        for q, n in ((2, 0), (3, 0), (4, 0), (5, 0), (7, 0), (9, 0), (2, 2), (3, 2)):
            for space in spaces_of(Source(452), "quadratic", q, n):
                known = {}
                for z in walk(q, 2 ** n):
                    for sign, d in product((1, -1, 0), range(q)):
                        taken += self.check(space, ("sign", sign, z, d), known)
        self.assertGreater(taken, 20)

    def test_even_elements(self):
        """All even elements of the planes over the bigger fields, with the number that fits and another one."""
        for q in (4, 5, 7, 9):
            for space in spaces_of(Source(453), "quadratic", q, 2):
                known, source = {}, Source(454)
                for a, b in walk(q, 2):
                    d = source.below(q)
                    for sign in (1, -1):
                        self.check(space, ("sign", sign, (a, 0, 0, b), d), known)
                        self.check(space, ("sign", sign, (a, d, 0, b), d), known)

    def test_unit_rows(self):
        """All of them are asked: the pairing of one plane turns round with its own rows alone."""
        for q in SIZES:
            for order in ((0, 1, 2, 3), (2, 3, 0, 1), (0, 2, 1, 3), (3, 1, 2, 0)):
                # The unit rows with these indexes are those of two planes of the sign 1.
                matrix = [[0] * 4 for _ in range(4)]
                for i, j in (order[:2], order[2:]):
                    matrix[min(i, j)][max(i, j)] = 1
                space, known = Space("quadratic", q, matrix), {}
                one, two = (slow_product(space, [units(4)[i], units(4)[j]], known) for i, j in (order[:2], order[2:]))
                both = slow_add(q, slow_add(q, one, two), slow_scaled(
                    q, slow_multiply(space, one, two, known), MINUS[q][PLUS[q][1][1]]))
                self.assertIs(self.check(space, ("sign", 1, both, 0), known), True)
                for z in (one, two, slow_add(q, one, two), (0,) * 16):
                    if z != both:
                        self.assertIs(self.check(space, ("sign", 1, z, 0), known), False)

    def test_other_spaces(self):
        """Other kinds, odd dimensions, those above 4, and radicals."""
        for kind, q in FORMS:
            for n in range(7):
                for space in (*spaces_of(Source(455), kind, q, n), zero_space(kind, q, n)):
                    if kind == "quadratic" and n in (0, 2, 4) and not space.radical():
                        continue
                    size = 2 ** n
                    for z in ((0,) * size, (1,) + (0,) * (size - 1), (0,) * (size - 1) + (1,), ()):
                        for sign, d in product((1, -1), (0, 1)):
                            self.assertIs(takes_sign(space, ("sign", sign, z, d)), False)

    def test_six_dimensions(self):
        """A pairing of a space of the dimension 6 is not asked for."""
        space = hyperbolic("quadratic", 2, 3)
        z = [0] * 64
        for index in (3, 12, 48):
            z[index] = 1
        self.assertIs(takes_sign(space, ("sign", 1, tuple(z), 0)), False)

    def test_odd_values(self):
        for q in SIZES:
            for space in (hyperbolic("quadratic", q, 1), zero_space("quadratic", q, 0)):
                _, sign, z, d = sign_paper(space)
                for paper in odd_papers():
                    self.assertIs(takes_sign(space, paper), False)
                for wrong in odd_values() + [(1,), "1", 2, 0, -2, {}]:
                    if type(wrong) is not int or wrong not in (1, -1):
                        self.assertIs(takes_sign(space, ("sign", wrong, z, d)), False)
                    if wrong != z and wrong not in ((1,), (0,)):
                        self.assertIs(takes_sign(space, ("sign", sign, wrong, d)), False)
                    if type(wrong) is not int or wrong not in range(q):
                        self.assertIs(takes_sign(space, ("sign", sign, z, wrong)), False)
                for paper in mixed_values(q, space.n):
                    self.check(space, paper, {})


class Factors(unittest.TestCase):
    def check(self, f, paper):
        found = takes_factors(f, paper)
        self.assertIs(found, holds_factors(f, paper), (told(f.space), f.matrix, paper))
        return found

    def drawn_items(self, source, space, k):
        """Items that are right by themselves, if the space has any."""
        found = []
        for _ in range(20 * k):
            u = source.row(space.q, space.n)
            if space.kind == "alternating" and any(u):
                found.append((1 + source.below(space.q - 1), u))
            if space.kind == "quadratic" and value(space, u) != 0:
                found.append(u)
        return tuple(found[:k])

    def test_papers_of_the_program(self):
        source = Source(460)
        for space in every_space(source, 6):
            if space.kind != "hermitian" and not space.radical() and (space.kind, space.q % 2) != ("quadratic", 0):
                f = Isometry(space, drawn_isometry(source, space))
                paper = factors_paper(f)
                self.assertIs(takes_factors(f, paper), True)
                other = Isometry(space, drawn_isometry(source, space))
                self.assertIs(takes_factors(other, paper), f == other)

    def test_products(self):
        """Also with a radical, and reflections for even q."""
        source, taken = Source(461), 0
        for space in every_space(source, 4):
            items = self.drawn_items(source, space, 1 + source.below(4))
            matrix = units(space.n)
            for item in items:
                u, c = item if space.kind == "alternating" else (item, None)
                if c is not None:
                    u, c = c, u
                else:
                    c = MINUS[space.q][inverse_of(space.q, value(space, u))]
                step = tuple(
                    tuple(PLUS[space.q][a][TIMES[space.q][TIMES[space.q][c][space.product(x, u)]][b]]
                          for a, b in zip(x, u)) for x in units(space.n)
                )
                matrix = times(space.q, matrix, step, space.n)
            f = Isometry(space, matrix)
            taken += self.check(f, ("factors", items))
            self.check(f, ("factors", items[::-1]))
            self.check(f, ("factors", items + items[:1]))
            self.check(f, ("factors", ()))
        self.assertGreater(taken, 100)

    def test_spoilt_papers(self):
        source, taken = Source(462), 0
        for space in every_space(source, 4):
            if space.kind != "hermitian" and not space.radical() and (space.kind, space.q % 2) != ("quadratic", 0):
                f = Isometry(space, drawn_isometry(source, space))
                for paper in some_spoilt(source, space.q, factors_paper(f), MOST):
                    taken += self.check(f, paper)
        self.assertGreater(taken, 20)

    def test_identity(self):
        for kind, q in FORMS:
            for n in range(7):
                for space in spaces_of(Source(463), kind, q, n):
                    f = Isometry(space, units(n))
                    self.assertIs(takes_factors(f, ("factors", ())), kind != "hermitian")
                    self.assertIs(takes_factors(f, ("factors", [])), False)

    def test_all_items(self):
        for kind, q, n in (("quadratic", 2, 2), ("quadratic", 3, 2), ("alternating", 3, 2), ("hermitian", 4, 1)):
            for space in spaces_of(Source(464), kind, q, n):
                f = Isometry(space, drawn_isometry(Source(465), space))
                rows = walk(q, n)
                for u in rows:
                    for items in ((u,), (u, u), (u, rows[1]), (rows[-1], u)):
                        self.check(f, ("factors", items))
                    for c, d in product(range(q), range(q)):
                        self.check(f, ("factors", ((c, u),)))
                        self.check(f, ("factors", ((c, u), (d, rows[1]))))
                        self.check(f, ("factors", ((u, c),)))

    def test_zeros(self):
        """Numbers and rows other than 0 are asked for, though others leave all rows as they are."""
        space = hyperbolic("alternating", 5, 1)
        f = Isometry(space, units(2))
        for wrong in (((0, (1, 0)),), ((1, (0, 0)),), ((0, (0, 0)),)):
            self.assertIs(takes_factors(f, ("factors", wrong)), False)
        space = hyperbolic("quadratic", 5, 1)
        self.assertIs(takes_factors(Isometry(space, units(2)), ("factors", ((1, 0),))), False)
        self.assertIs(takes_factors(Isometry(space, units(2)), ("factors", ((1, 1), (1, 1)))), True)

    def test_odd_values(self):
        for kind in KINDS:
            for space in (hyperbolic(kind, 9, 1), zero_space(kind, 9, 0)):
                f = Isometry(space, units(space.n))
                for paper in odd_papers():
                    if paper != ("factors", ()):
                        self.assertIs(takes_factors(f, paper), False)
                for wrong in odd_values() + odd_rows(9, space.n):
                    if wrong != ():
                        self.check(f, ("factors", wrong))
                        self.check(f, ("factors", (wrong,)))
                        self.check(f, ("factors", ((1, wrong),)))
                        self.check(f, ("factors", ((wrong, (1,) * space.n),)))
                for paper in mixed_values(9, space.n):
                    self.check(f, paper)


class OtherPapers(unittest.TestCase):
    def test_papers_of_other_kinds(self):
        source = Source(470)
        for q in (3, 5):
            space = normal_space("quadratic", q, (2, 0, 0, 1))
            f = Isometry(space, drawn_isometry(source, space))
            us, vs = images(source, space, 1)
            papers = [isometry_paper(space, space), extension_paper(space, us, vs), index_paper(space),
                      sign_paper(space), factors_paper(f), ("unlike",), ("barrier", (1,)),
                      ("apart", units(2), units(2))]
            for paper in papers:
                self.assertIs(takes_isometry(space, space, paper), paper[0] == "isometry")
                self.assertIs(takes_extension(space, us, vs, paper), paper[0] == "extension")
                self.assertIs(takes_index(space, paper), paper[0] == "index")
                self.assertIs(takes_sign(space, paper), paper[0] == "sign")
                self.assertIs(takes_factors(f, paper), paper[0] == "factors")

    def test_lists_and_truths(self):
        """Every single place of a paper."""
        space = hyperbolic("quadratic", 2, 1)
        for takes, paper in (
            (lambda one: takes_isometry(space, space, one), ("isometry", units(2))),
            (lambda one: takes_index(space, one), index_paper(space)),
            (lambda one: takes_sign(space, one), sign_paper(space)),
            (lambda one: takes_factors(Isometry(space, ((0, 1), (1, 0))), one), ("factors", ((1, 1),))),
        ):
            self.assertIs(takes(paper), True)
            seen = 0
            for one in spoilt(2, paper):
                if repr(one) != repr(paper) and (one == paper or "[" in str(one)):
                    self.assertIs(takes(one), False, one)
                    seen += 1
            self.assertGreater(seen, 5)

    def test_chapters_of_the_checker(self):
        """It multiplies, adds and compares with chapters 1 and 2 alone."""
        path = Path(__file__).resolve().parent.parent / "wittspaces" / "checker.py"
        imports = [node.module for node in ast.walk(ast.parse(path.read_text())) if isinstance(node, ast.ImportFrom)]
        allowed = {f"wittspaces.{name}" for name in ("errors", "whole", "field", "linear", "space", "build")}
        self.assertLessEqual(set(imports), allowed)


if __name__ == "__main__":
    unittest.main()
