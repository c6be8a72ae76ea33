"""What the document promises over the whole program (points 0.1 to 0.4)."""

import ast
import importlib
import inspect
import unittest
from itertools import product
from pathlib import Path

from helper import FORMS, SIZES, Source, odd_values, span_set, walk
from maps import are_independent, drawn_isometry, drawn_spaces, keeps, spaces_of, units, value
from multiplied import barred, every_space, goes_on, images
from test_interface import FUNCTIONS
from wittspaces.build import direct_sum, hyperbolic, restricted
from wittspaces.checker import takes_extension, takes_isometry, takes_sign
from wittspaces.clifford import Clifford
from wittspaces.console import Console
from wittspaces.errors import Fault
from wittspaces.families import families, same_family
from wittspaces.field import Field
from wittspaces.isometry import Isometry
from wittspaces.normal import invariants, normal_form, sign
from wittspaces.orbits import carried
from wittspaces.pairing import pairing
from wittspaces.papers import extension_paper, factors_paper, index_paper, isometry_paper, sign_paper
from wittspaces.polar import singular_subspaces
from wittspaces.replies import Reply
from wittspaces.similar import find_isometry, greatest_singular, isometric
from wittspaces.space import Space
from wittspaces.turns import dickson, reflections_of, transvections_of
from wittspaces.witt import all_classes, product_table, sum_table

PACKAGE = Path(__file__).resolve().parent.parent / "wittspaces"

CHAPTERS = {
    1: ("errors", "whole", "field", "linear"), 2: ("space", "build"), 3: ("normal", "similar"), 4: ("counts", "polar"),
    5: ("isometry", "kinds", "groups"), 6: ("extension", "orbits"), 7: ("clifford", "pairing"),
    8: ("turns", "families"), 9: ("witt", "related"), 10: ("papers", "checker"),
    11: ("sheet", "replies", "log", "console"),
}


def state(thing):
    """A value with all that its objects keep, as something that can be compared."""
    if isinstance(thing, (list, tuple)):
        return type(thing).__name__, [state(one) for one in thing]
    if isinstance(thing, dict):
        return "dict", [(state(key), state(one)) for key, one in thing.items()]
    if type(thing).__module__.startswith("wittspaces."):
        return type(thing).__name__, state(vars(thing))
    return type(thing).__name__, repr(thing)


class Chapters(unittest.TestCase):
    def test_each_uses_those_before(self):
        numbers = {name: number for number, names in CHAPTERS.items() for name in names}
        files = {path.stem for path in PACKAGE.glob("*.py")} - {"__init__"}
        self.assertEqual(files, set(numbers))
        for name in files:
            for node in ast.walk(ast.parse((PACKAGE / f"{name}.py").read_text())):
                if isinstance(node, ast.ImportFrom) and node.module.startswith("wittspaces"):
                    other = node.module.partition(".")[2]
                    self.assertLessEqual(numbers[other], numbers[name], (name, other))


def calls():
    """The name of each function of the interface, by its module, and the arguments of some calls, made anew."""
    plane, line = hyperbolic("quadratic", 3, 1), hyperbolic("alternating", 3, 1)
    even, unitary = hyperbolic("quadratic", 2, 1), hyperbolic("hermitian", 4, 1)
    bent = Space("quadratic", 5, [[1, 2, 0], [0, 4, 1], [0, 0, 0]])
    f, g = Isometry(plane, ((0, 1), (1, 0))), Isometry(line, ((1, 1), (0, 1)))
    field, names = Field(4), {"a": plane, "b": even}
    entries = [("show a", Reply("a", "b", (1, ("x",)))), ("", Reply("done"))]
    spaces = [[plane], [line], [even], [unitary], [bent]]
    rows, table = [(0, 1), (1, 2)], ((1, 0),)
    found = {
        "whole": {"is_integer": [[[1]]], "power": [[2, 3]], "gauss": [[4, 2, 3]], "invertible_count": [[2, 3]]},
        "linear": {
            "is_row": [[field, [1], 1]], "unit_row": [[2, 1]], "add": [[field, (1, 2), (3, 1)]],
            "scaled": [[field, (1, 2), 3]], "dot": [[field, (1, 2), (3, 1)]], "combine": [[field, rows, [2, 3], 2]],
            "reduced": [[field, rows, 2]], "span": [[field, rows, 2]], "is_space": [[field, rows, 2]],
            "kernel": [[field, rows[:1], 2]], "relations": [[field, rows, 2]], "solve": [[field, rows, 2, [1, 3]]],
            "coordinates": [[field, rows, (3, 1)]], "holds": [[field, table, (2, 0)]], "rest": [[field, table, (2, 1)]],
            "sum_of": [[field, table, table, 2]], "common_part": [[field, table, table, 2]],
            "complement_rows": [[table, 2]], "all_rows": [[field, table, 2]], "moved": [[field, (1, 2), rows, 2]],
            "times": [[field, rows, rows, 2]], "transposed": [[rows, 2]], "mirrored_rows": [[field, rows]],
            "identity": [[3]], "is_matrix": [[field, rows, 2]], "determinant": [[field, tuple(rows)]],
            "matrix_inverse": [[field, tuple(rows)]],
        },
        "space": {"read_space": [["q 3 1: 1"], [rows]]},
        "build": {
            "hyperbolic": [["quadratic", 3, 1]], "zero_space": [["hermitian", 4, 2]],
            "of_matrix": [[3, [[1, 2], [2, 0]]]],
            "direct_sum": [[plane, plane]], "scaled": [[plane, 2]], "restricted": [[bent, [(1, 2, 3), (0, 1, 0)]]],
            "changed": [[plane, rows]], "complement": spaces, "core": spaces,
        },
        "normal": {
            "invariants": spaces, "is_normal": spaces, "normal_space": [["quadratic", 3, (2, 1, 1, -1)]],
            "normal_form": spaces, "orthogonal_basis": spaces, "pairs_basis": spaces, "discriminant": spaces,
            "sign": spaces,
        },
        "similar": {
            "isometric": [[plane, bent], [plane, plane]], "find_isometry": [[plane, bent], [plane, plane]],
            "witt_basis": spaces, "witt_index": spaces, "anisotropic_part": spaces, "greatest_singular": spaces,
        },
        "counts": {"value_counts": spaces, "singular_count": [[plane, 1], [bent, 1]]},
        "polar": {
            "points": spaces, "singular_subspaces": [[plane, 1], [bent, 1]], "points_of": [[plane, table]],
            "joined": [[plane, (1, 0)]], "one_or_all": [[line, (1, 0), units(2)]],
            "residue": [[plane, table], [plane, rows]],
        },
        "isometry": {"is_isometry": [[plane, ((0, 1), (1, 0))], [plane, rows]]},
        "kinds": {
            "reflection": [[plane, (1, 1)]], "transvection": [[line, (1, 1), 2]], "unitary": [[unitary, (1, 0), 1]],
            "siegel": [[plane, (1, 0), (2, 0)]], "unitary_numbers": [[unitary, (1, 1)]],
        },
        "groups": {"group_order": spaces, "isometries": spaces},
        "extension": {
            "is_partial": [[plane, [(1, 0)], [(2, 0)]]], "common_with_radical": [[bent, [(1, 0, 0), (0, 1, 0)]]],
            "extends": [[plane, [(1, 0)], [(2, 0)]]], "extension": [[plane, [(1, 0)], [(2, 0)]]],
            "barrier": [[plane, [(1, 0)], [(2, 0)]]],
        },
        "orbits": {
            "same_orbit": [[plane, (1, 0), (0, 1)]], "carrier": [[plane, (1, 0), (0, 1)]], "orbit": [[plane, (1, 0)]],
            "orbit_count": spaces, "carried": [[plane, table, ((0, 1),)]],
        },
        "pairing": {
            "pairing": spaces, "sign_by_pairing": spaces, "is_pairing": [[plane, (0, 0, 0, 1), 0], [plane, rows, rows]],
            "swaps": [[plane, ((0, 1), (1, 0))], [plane, rows]], "even_centre": spaces,
        },
        "turns": {
            "reflections_of": [[f], [g]], "transvections_of": [[f], [g]], "dickson": [[f], [g]],
            "spinor_norm": [[f], [g]], "product_of_reflections": [[plane, ((1, 1), (1, 2))]],
            "product_of_transvections": [[line, ((1, (1, 1)), (2, (0, 1)))]],
        },
        "families": {
            "same_family": [[plane, table, ((0, 1),)], [plane, rows, rows]], "families": spaces,
            "two_above": [[plane, ()], [plane, []]],
            "family_root": [[plane, table, (0, 0, 0, 1)], [plane, table, rows]],
        },
        "witt": {
            "witt_class": spaces, "class_sum": [[plane, plane]], "class_negative": spaces,
            "class_product": [[plane, plane]], "all_classes": [["quadratic", 3]], "sum_table": [["quadratic", 3]],
            "product_table": [[5]], "tensor": [[plane, plane]],
        },
        "related": {
            "trace_space": spaces, "trace_row": [[unitary, (2, 3)]], "trace_matrix": [[unitary, ((2, 3), (0, 1))]],
            "polar_space": spaces, "quadratics": [[hyperbolic("alternating", 4, 1)]], "shifted": [[even, (1, 0)]],
            "shift_between": [[even, even]], "sign_counts": [[hyperbolic("alternating", 4, 1)]],
        },
        "papers": {
            "isometry_paper": [[plane, plane], [plane, even]], "extension_paper": [[plane, [(1, 0)], [(2, 0)]]],
            "index_paper": spaces, "sign_paper": spaces, "factors_paper": [[f], [g]],
        },
        "checker": {
            "takes_isometry": [[plane, plane, ["isometry", rows]], [plane, plane, ("isometry", ((1, 0), (0, 1)))]],
            "takes_extension": [[plane, [(1, 0)], [(2, 0)], ("extension", ((2, 0), (0, 2)))]],
            "takes_index": [[plane, ("index", (((1, 0), (0, 1)),), (), ())], [plane, [rows]]],
            "takes_sign": [[plane, ("sign", 1, (0, 0, 0, 1), 0)], [plane, ["sign", rows]]],
            "takes_factors": [[f, ("factors", ((1, 2),))], [f, ["factors", rows]]],
        },
        "sheet": {"read_line": [["extends a 10 20"], [rows]]},
        "replies": {
            "reply_to": [[names, "let a = q 3 1: 1"], [names, rows], [names, "extends a 10 20"]],
            "defined": [[names, "let a = q 3 1: 1"], [names, rows], [names, "sum b a a"]],
            "is_right": [[names, entries[0]], [names, rows], [names, ("index b", Reply("index", "1", rows))]],
        },
        "log": {
            "write_data": [[(1, ("x",))], [rows]], "read_data": [["(1 (x))"], [rows]], "write_log": [[entries], [rows]],
            "read_log": [["> a\n= b c\n# (1)\n"], [rows]], "first_wrong": [[entries], [rows]],
        },
    }
    return {(module, name): some for module, functions in found.items() for name, some in functions.items()}


class Unchanging(unittest.TestCase):
    def result(self, function, arguments):
        try:
            found = function(*arguments)
        except Fault as fault:
            return type(fault).__name__, state(vars(fault))
        return state(list(found) if inspect.isgenerator(found) else found)

    def test_every_function(self):
        """Called with equal arguments: equal results, and unchanged arguments."""
        every = calls()
        self.assertEqual(set(every), {(module, name) for module, some in FUNCTIONS.items() for name in some})
        again = calls()
        for (module, name), some in every.items():
            function = getattr(importlib.import_module(f"wittspaces.{module}"), name)
            for arguments, others in zip(some, again[module, name]):
                before = state(arguments)
                result = self.result(function, arguments)
                self.assertEqual(state(arguments), before, (module, name))
                self.assertEqual(self.result(function, arguments), result, (module, name))
                self.assertEqual(self.result(function, others), result, (module, name))

    def test_methods(self):
        space = hyperbolic("quadratic", 3, 1)
        algebra = Clifford(space)
        isometry = Isometry(space, ((0, 1), (1, 0)))
        rows = [(1, 0), (0, 1)]
        for thing, calls in (
            (space, [("value", (1, 2)), ("product", (1, 2), (1, 1)), ("perp", rows), ("is_singular", rows), ("gram",),
                     ("radical",), ("singular_radical",), ("rows",), ("zero",), ("unit", 1), ("is_row", [1, 0])]),
            (space.field, [("add", 1, 2), ("inverse", 2), ("power", 2, 5), ("root", 1), ("numbers",), ("trace", 1)]),
            (isometry, [("inverse",), ("power", -3), ("order",), ("fixed",), ("residual",), ("then", isometry)]),
            (algebra, [("product_of", rows), ("multiply", (1, 2, 0, 1), (0, 1, 1, 2)), ("reversed_of", (1, 2, 0, 1)),
                       ("turned", (1, 2, 0, 1)), ("inverse", (1, 0, 0, 1)), ("image", units(2), (1, 2, 0, 1))]),
        ):
            for name, *arguments in calls:
                before = state([thing, arguments])
                result = state(getattr(thing, name)(*arguments))
                self.assertEqual(state([thing, arguments]), before, name)
                self.assertEqual(state(getattr(thing, name)(*arguments)), result, name)
                self.assertEqual(state([thing, arguments]), before, name)

    def test_results_are_the_callers_own(self):
        """A list that is returned may be changed; a list that is given may be changed later."""
        matrix = [[0, 1], [0, 0]]
        space = Space("quadratic", 3, matrix)
        matrix[0][1] = 2
        self.assertEqual(space.matrix, ((0, 1), (0, 0)))
        console = Console()
        console.enter("let a = q 3 1: 1")
        names = console.names()
        names.clear()
        self.assertEqual(list(console.names()), ["a"])

    def test_equal_arguments(self):
        """Other objects that are equal give equal results."""
        for space in drawn_spaces(Source(540), lambda kind, q: 3):
            copy = Space(space.kind, space.q, [list(row) for row in space.matrix])
            self.assertEqual(copy, space)
            for function in (normal_form, invariants, index_paper, greatest_singular):
                self.assertEqual(state(function(copy)), state(function(space)))
            self.assertEqual(isometry_paper(copy, space), isometry_paper(space, copy))
            matrix = drawn_isometry(Source(541), space)
            one, two = Isometry(space, matrix), Isometry(copy, matrix)
            self.assertEqual(one, two)
            if space.kind == "alternating" and not space.radical():
                self.assertEqual(transvections_of(one), transvections_of(two))
            if space.kind == "quadratic" and space.q % 2 and not space.radical():
                self.assertEqual(reflections_of(one), reflections_of(two))
                self.assertEqual(factors_paper(one), factors_paper(two))


class MainFacts(unittest.TestCase):
    def test_extensions(self):
        """A partial isometry extends exactly if the common parts with the radical correspond."""
        source = Source(542)
        for kind, q, n in (("quadratic", 2, 2), ("alternating", 2, 3), ("quadratic", 3, 2), ("hermitian", 4, 1)):
            for space in spaces_of(source, kind, q, n):
                matrices = [one for one in product(walk(q, n), repeat=n) if keeps(space, one)]
                matrices = [one for one in matrices if are_independent(q, one)]
                for found in (images(source, space, 1), images(source, space, n), barred(source, space)):
                    if found is None:
                        continue
                    us, vs = found
                    shown = any(takes_extension(space, us, vs, ("extension", one)) for one in matrices)
                    barrier = any(takes_extension(space, us, vs, ("barrier", one)) for one in walk(q, len(us)))
                    self.assertEqual((shown, barrier), (goes_on(space, us, vs), not goes_on(space, us, vs)))
                    self.assertTrue(takes_extension(space, us, vs, extension_paper(space, us, vs)))

    def test_normal_forms(self):
        for kind, q in FORMS:
            spaces = [space for n in range(4) for space in spaces_of(Source(543), kind, q, n)]
            for a, b in product(spaces, spaces):
                same = normal_form(a)[0] == normal_form(b)[0]
                self.assertIs(isometric(a, b), same)
                self.assertEqual(find_isometry(a, b) is not None, same)
                self.assertTrue(takes_isometry(a, b, isometry_paper(a, b)))

    def test_greatest_singular_subspaces(self):
        """All that are not within a greater one have one dimension, and are carried onto each other."""
        for kind, q, n in (("quadratic", 2, 4), ("quadratic", 3, 3), ("alternating", 2, 4), ("hermitian", 4, 3),
                           ("quadratic", 4, 3), ("alternating", 3, 3)):
            for space in spaces_of(Source(544), kind, q, n):
                every = [(table, span_set(q, table, n)) for k in range(n + 1) for table in singular_subspaces(space, k)]
                greatest = [
                    table for table, rows in every
                    if not any(len(others) > len(rows) and rows <= others for _, others in every)
                ]
                self.assertEqual({len(table) for table in greatest}, {len(greatest_singular(space))})
                for table in greatest[:4] + greatest[-2:]:
                    f = carried(space, greatest[0], table)
                    self.assertEqual(span_set(q, [f(x) for x in greatest[0]], n), span_set(q, table, n))

    def test_signs_and_families(self):
        for q in SIZES:
            for n in (2, 4):
                for space in spaces_of(Source(545), "quadratic", q, n):
                    if space.radical():
                        continue
                    _, e, z, d = sign_paper(space)
                    self.assertEqual(e, sign(space))
                    self.assertTrue(takes_sign(space, ("sign", e, z, d)))
                    self.assertFalse(takes_sign(space, ("sign", -e, *pairing(space))))
                    if e == 1 and q ** n <= 4096:
                        first, second = families(space)
                        f = Isometry(space, drawn_isometry(Source(546), space, 3))
                        for table in (first[0], second[0]):
                            image = [one for one in first + second if span_set(q, one, n) == span_set(
                                q, [f(x) for x in table], n)]
                            self.assertIs(same_family(space, table, image[0]), dickson(f) == 0)

    def test_ring_of_four_classes(self):
        for q in (3, 5, 7, 9):
            self.assertEqual(len(all_classes("quadratic", q)), 4)
            sums, products = sum_table("quadratic", q), product_table(q)
            for i, j, k in product(range(4), repeat=3):
                self.assertEqual(products[i][sums[j][k]], sums[products[i][j]][products[i][k]])


class EveryValue(unittest.TestCase):
    """Errors that the program raises are its own ones, whatever is passed where every value is allowed."""

    def test_faults_alone(self):
        for wrong in odd_values():
            for call in (
                lambda: Space(wrong, wrong, wrong), lambda: Space("quadratic", 3, wrong), lambda: Field(wrong),
                lambda: Isometry(wrong, wrong), lambda: Clifford(wrong), lambda: all_classes(wrong, wrong),
                lambda: extension_paper(hyperbolic("quadratic", 3, 1), wrong, wrong),
                lambda: restricted(hyperbolic("quadratic", 3, 1), wrong), lambda: product_table(wrong),
                lambda: hyperbolic("quadratic", 3, wrong),
                lambda: same_family(hyperbolic("quadratic", 3, 1), wrong, wrong),
            ):
                try:
                    call()
                except Fault:
                    pass

    def test_sums_of_spaces(self):
        for space in every_space(Source(547), 3):
            both = direct_sum(space, space)
            for x in Source(548).rows(space.q, space.n, 2):
                twice = space.field.add(value(space, x), value(space, x))
                self.assertEqual(value(both, x + x), twice)


if __name__ == "__main__":
    unittest.main()
