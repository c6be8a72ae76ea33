"""The names and arguments of the interface, and the files' sizes and signs."""

import ast
import doctest
import importlib
import inspect
import unittest
from pathlib import Path

PACKAGE = Path(__file__).resolve().parent.parent / "wittspaces"

FUNCTIONS = {
    "whole": {
        "is_integer": ["value"], "power": ["a", "k"], "gauss": ["n", "k", "q"], "invertible_count": ["n", "q"],
    },
    "linear": {
        "is_row": ["field", "value", "n"], "unit_row": ["n", "i"], "add": ["field", "v", "w"],
        "scaled": ["field", "v", "c"], "dot": ["field", "v", "w"], "combine": ["field", "rows", "weights", "width"],
        "reduced": ["field", "rows", "width"], "span": ["field", "rows", "width"],
        "is_space": ["field", "value", "width"], "kernel": ["field", "rows", "width"],
        "relations": ["field", "rows", "width"], "solve": ["field", "rows", "width", "right"],
        "coordinates": ["field", "rows", "v"], "holds": ["field", "space", "v"], "rest": ["field", "space", "v"],
        "sum_of": ["field", "a", "b", "width"], "common_part": ["field", "a", "b", "width"],
        "complement_rows": ["space", "width"], "all_rows": ["field", "space", "width"],
        "moved": ["field", "v", "rows", "width"], "times": ["field", "one", "two", "width"],
        "transposed": ["rows", "width"], "mirrored_rows": ["field", "rows"], "identity": ["n"],
        "is_matrix": ["field", "value", "n"], "determinant": ["field", "matrix"],
        "matrix_inverse": ["field", "matrix"],
    },
    "space": {"read_space": ["text"]},
    "build": {
        "hyperbolic": ["kind", "q", "m"], "zero_space": ["kind", "q", "n"], "of_matrix": ["q", "matrix"],
        "direct_sum": ["a", "b"], "scaled": ["space", "c"], "restricted": ["space", "rows"],
        "changed": ["space", "rows"], "complement": ["space"], "core": ["space"],
    },
    "normal": {
        "invariants": ["space"], "is_normal": ["space"], "normal_space": ["kind", "q", "numbers"],
        "normal_form": ["space"], "orthogonal_basis": ["space"], "pairs_basis": ["space"],
        "discriminant": ["space"], "sign": ["space"],
    },
    "similar": {
        "isometric": ["a", "b"], "find_isometry": ["a", "b"], "witt_basis": ["space"], "witt_index": ["space"],
        "anisotropic_part": ["space"], "greatest_singular": ["space"],
    },
    "counts": {"value_counts": ["space"], "singular_count": ["space", "k"]},
    "polar": {
        "points": ["space"], "singular_subspaces": ["space", "k"], "points_of": ["space", "table"],
        "joined": ["space", "x"], "one_or_all": ["space", "x", "line"], "residue": ["space", "table"],
    },
    "isometry": {"is_isometry": ["space", "value"]},
    "kinds": {
        "reflection": ["space", "u"], "transvection": ["space", "u", "c"], "unitary": ["space", "u", "c"],
        "siegel": ["space", "u", "w"], "unitary_numbers": ["space", "u"],
    },
    "groups": {"group_order": ["space"], "isometries": ["space"]},
    "extension": {
        "is_partial": ["space", "us", "vs"], "common_with_radical": ["space", "rows"],
        "extends": ["space", "us", "vs"], "extension": ["space", "us", "vs"], "barrier": ["space", "us", "vs"],
    },
    "orbits": {
        "same_orbit": ["space", "x", "y"], "carrier": ["space", "x", "y"], "orbit": ["space", "x"],
        "orbit_count": ["space"], "carried": ["space", "a", "b"],
    },
    "pairing": {
        "pairing": ["space"], "sign_by_pairing": ["space"], "is_pairing": ["space", "z", "d"],
        "swaps": ["space", "matrix"], "even_centre": ["space"],
    },
    "turns": {
        "reflections_of": ["f"], "transvections_of": ["f"], "dickson": ["f"], "spinor_norm": ["f"],
        "product_of_reflections": ["space", "rows"], "product_of_transvections": ["space", "pairs"],
    },
    "families": {
        "same_family": ["space", "one", "two"], "families": ["space"], "two_above": ["space", "table"],
        "family_root": ["space", "table", "z"],
    },
    "witt": {
        "witt_class": ["space"], "class_sum": ["a", "b"], "class_negative": ["a"], "class_product": ["a", "b"],
        "all_classes": ["kind", "q"], "sum_table": ["kind", "q"], "product_table": ["q"], "tensor": ["a", "b"],
    },
    "related": {
        "trace_space": ["space"], "trace_row": ["space", "x"], "trace_matrix": ["space", "matrix"],
        "polar_space": ["space"], "quadratics": ["space"], "shifted": ["space", "a"],
        "shift_between": ["one", "two"], "sign_counts": ["space"],
    },
    "papers": {
        "isometry_paper": ["a", "b"], "extension_paper": ["space", "us", "vs"], "index_paper": ["space"],
        "sign_paper": ["space"], "factors_paper": ["isometry"],
    },
    "checker": {
        "takes_isometry": ["a", "b", "paper"], "takes_extension": ["space", "us", "vs", "paper"],
        "takes_index": ["space", "paper"], "takes_sign": ["space", "paper"], "takes_factors": ["isometry", "paper"],
    },
    "sheet": {"read_line": ["line"]},
    "replies": {"reply_to": ["names", "line"], "defined": ["names", "line"], "is_right": ["names", "entry"]},
    "log": {
        "write_data": ["data"], "read_data": ["text"], "write_log": ["entries"], "read_log": ["text"],
        "first_wrong": ["entries"],
    },
}

CLASSES = {
    "errors": {"Fault": {}, "Malformed": {}, "Refused": {"__init__": ["reason"]}, "NoText": {"__init__": ["at"]}},
    "field": {
        "Field": {
            "__init__": ["q"], "__eq__": ["other"], "is_number": ["value"], "numbers": [], "add": ["a", "b"],
            "subtract": ["a", "b"], "negative": ["a"], "multiply": ["a", "b"], "inverse": ["a"],
            "power": ["a", "k"], "mirrored": ["a"], "is_fixed": ["a"], "trace": ["a"], "norm": ["a"],
            "is_square": ["a"], "root": ["a"], "least_nonsquare": [], "least_without_root": [], "half_root": ["k"],
        },
    },
    "space": {
        "Space": {
            "__init__": ["kind", "q", "matrix"], "__eq__": ["other"], "__str__": [], "is_row": ["value"], "zero": [],
            "unit": ["i"], "rows": [], "value": ["x"], "product": ["x", "y"], "gram": [], "radical": [],
            "singular_radical": [], "perp": ["rows"], "is_singular": ["rows"],
        },
    },
    "isometry": {
        "Isometry": {
            "__init__": ["space", "matrix"], "__eq__": ["other"], "__call__": ["v"], "then": ["g"], "inverse": [],
            "power": ["k"], "is_identity": [], "order": [], "fixed": [], "residual": [],
        },
    },
    "clifford": {
        "Clifford": {
            "__init__": ["space"], "__eq__": ["other"], "is_element": ["value"], "number": ["c"], "row": ["x"],
            "unit": ["index"], "product_of": ["rows"], "add": ["a", "b"], "negative": ["a"], "scaled": ["a", "c"],
            "multiply": ["a", "b"], "is_even": ["a"], "turned": ["a"], "reversed_of": ["a"], "inverse": ["a"],
            "image": ["matrix", "a"],
        },
    },
    "replies": {"Reply": {"__init__": ["kind", "text", "data"], "__eq__": ["other"]}},
    "console": {
        "Console": {
            "__init__": ["most"], "__len__": [], "enter": ["line"], "entries": [], "names": [], "log": [],
        },
    },
}


def parameters(function):
    return list(inspect.signature(function).parameters)


class Names(unittest.TestCase):
    def test_functions(self):
        for module_name, functions in FUNCTIONS.items():
            module = importlib.import_module(f"wittspaces.{module_name}")
            for name, arguments in functions.items():
                function = getattr(module, name)
                self.assertEqual(function.__module__, module.__name__)
                self.assertEqual(parameters(function), arguments, name)

    def test_classes(self):
        for module_name, classes in CLASSES.items():
            module = importlib.import_module(f"wittspaces.{module_name}")
            for name, methods in classes.items():
                made = getattr(module, name)
                self.assertEqual(made.__module__, module.__name__)
                for method, arguments in methods.items():
                    self.assertIn(method, vars(made))
                    self.assertEqual(parameters(vars(made)[method])[1:], arguments, (name, method))

    def test_generator(self):
        from wittspaces.linear import all_rows
        self.assertTrue(inspect.isgeneratorfunction(all_rows))

    def test_package_defines_nothing(self):
        tree = ast.parse((PACKAGE / "__init__.py").read_text())
        self.assertTrue(all(isinstance(node, ast.Expr) for node in tree.body))


class Files(unittest.TestCase):
    def test_examples_of_the_readme(self):
        text = (PACKAGE.parent / "README.md").read_text().replace("```", "")
        result = doctest.DocTestRunner().run(doctest.DocTestParser().get_doctest(text, {}, "README", None, None))
        self.assertEqual(result.failed, 0)
        self.assertGreater(result.attempted, 0)

    def test_sizes_and_signs(self):
        for path in PACKAGE.glob("*.py"):
            text = path.read_bytes().decode("ascii")
            lines = text.split("\n")
            self.assertLess(len(lines), 400, path)
            self.assertTrue(all(len(line) <= 120 for line in lines), path)
            self.assertTrue(all(sign == "\n" or " " <= sign <= "~" for sign in text), path)
            for node in ast.walk(ast.parse(text)):
                if isinstance(node, ast.FunctionDef):
                    self.assertLessEqual(node.end_lineno - node.lineno + 1, 40, (path, node.name))


if __name__ == "__main__":
    unittest.main()
