"""What the rules of the language say of generators (L23), over all files of the package."""

import ast
import unittest
from pathlib import Path

PACKAGE = Path(__file__).resolve().parent.parent / "wittspaces"

WALKERS = ("list", "tuple", "dict", "sorted", "sum", "min", "max", "any", "all", "enumerate", "zip")


def trees():
    """The name and the syntax tree of each file of the package."""
    return [(path.name, ast.parse(path.read_text())) for path in sorted(PACKAGE.glob("*.py"))]


def generator_names(tree):
    """The names of the functions that yield, without those that only hold such a one."""
    found = set()
    for node in ast.walk(tree):
        if isinstance(node, ast.FunctionDef):
            held = {id(part) for inner in ast.walk(node) if inner is not node
                    and isinstance(inner, (ast.FunctionDef, ast.Lambda)) for part in ast.walk(inner)}
            if any(isinstance(part, (ast.Yield, ast.YieldFrom)) and id(part) not in held for part in ast.walk(node)):
                found.add(node.name)
    return found


def called_name(node):
    """The name of the function or method that is called, or None."""
    if not isinstance(node, ast.Call):
        return None
    return getattr(node.func, "id", None) or getattr(node.func, "attr", None)


def walked(tree):
    """The nodes of the tree that stand where they are gone over at once."""
    found = []
    for node in ast.walk(tree):
        if isinstance(node, (ast.For, ast.comprehension)):
            found.append(node.iter)
        elif isinstance(node, ast.YieldFrom):
            found.append(node.value)
        elif isinstance(node, ast.Call) and isinstance(node.func, ast.Name) and node.func.id in WALKERS:
            found.extend(node.args)
        elif called_name(node) == "join" and isinstance(node.func.value, ast.Constant):
            found.extend(node.args)
    return found


def kept(tree, names):
    """The lines on which a generator is made and not gone over at once."""
    over = {id(node) for node in walked(tree)}
    made = [node for node in ast.walk(tree) if isinstance(node, ast.GeneratorExp) or called_name(node) in names]
    return sorted([node.lineno for node in made if id(node) not in over])


class Generators(unittest.TestCase):
    def test_each_is_walked_where_it_is_made(self):
        names = set().union(*[generator_names(tree) for _, tree in trees()])
        self.assertIn("all_rows", names)
        for file, tree in trees():
            self.assertEqual(kept(tree, names), [], file)

    def test_is_no_value_and_has_its_name_alone(self):
        names = set().union(*[generator_names(tree) for _, tree in trees()])
        defined = [node.name for _, tree in trees() for node in ast.walk(tree) if isinstance(node, ast.FunctionDef)]
        for file, tree in trees():
            called = {id(node.func) for node in ast.walk(tree) if isinstance(node, ast.Call)}
            read = [node for node in ast.walk(tree) if isinstance(node, ast.Name) and node.id in names]
            self.assertEqual([node.lineno for node in read if id(node) not in called], [], file)
        self.assertEqual([name for name in names if defined.count(name) != 1], [])

    def test_what_is_kept_is_found(self):
        self.assertEqual(kept(ast.parse("rows = steps(3)\nout = all([x for x in rows])"), {"steps"}), [1])
        self.assertEqual(kept(ast.parse("out = f(steps(3))\nreturn (x for x in xs)"), {"steps"}), [1, 2])
        self.assertEqual(kept(ast.parse("for x in steps(3): pass\nout = [x for x in steps(3)]"), {"steps"}), [])
        self.assertEqual(kept(ast.parse("out = tuple(steps(3))\nout = any(x for x in xs)"), {"steps"}), [])


if __name__ == "__main__":
    unittest.main()
