import inspect
import unittest

from helper import FORMS, Source
from maps import outcome, spaces_of
from wittspaces.build import hyperbolic
from wittspaces.console import Console
from wittspaces.errors import Refused
from wittspaces.log import first_wrong, read_log, write_log
from wittspaces.replies import Reply, defined, reply_to
from wittspaces.space import read_space

LINES = [
    "show a", "let a = q 3 2: 1 0; 0 2", "show a", "sign a", "extends a 10 20", "value a 11", "sum b a a", "index b",
    "let a = h 4 1: 1", "show a", "isometric a b", "times b b 2", "times b b 3", "normal c b", "isometric b c", "",
    "# a comment", "foo", "factors c 1000,0100,0010,0001", "order c", "sum a a c", "show a", "let b = q 3 2: 1 0; 0",
]


class Consoles(unittest.TestCase):
    def test_lines(self):
        console = Console()
        names, entries = {}, []
        self.assertEqual((len(console), console.entries(), console.names(), console.log()), (0, (), {}, ""))
        for line in LINES:
            expected = reply_to(names, line)
            made = defined(names, line)
            if made:
                names[made[0]] = made[1]
            found = console.enter(line)
            self.assertIs(type(found), Reply)
            self.assertEqual(found, expected)
            entries.append((line, expected))
            self.assertEqual(len(console), len(entries))
            self.assertEqual(console.entries(), tuple(entries))
            self.assertIs(type(console.entries()), tuple)
            self.assertEqual(console.names(), names)
            self.assertEqual(console.log(), write_log(entries))
        self.assertEqual(read_log(console.log()), entries)
        self.assertEqual(first_wrong(list(console.entries())), -1)

    def test_definitions_replaced(self):
        console = Console()
        for kind, q in FORMS:
            for space in spaces_of(Source(530), kind, q, 2):
                reply = console.enter(f"let abc = {space}")
                self.assertEqual((reply.kind, reply.text, reply.data), ("space", str(space), ()))
                self.assertEqual(console.names(), {"abc": space})
                self.assertEqual(console.enter("show abc").text, str(space))
        before = console.names()
        # Errors define nothing.
        for line in ("let abc = x", "times abc abc 8", "sum abc abc abx", "normal abc b", "show abc", "values abc"):
            console.enter(line)
            self.assertEqual(console.names(), before)
        console.enter("normal abc abc")
        console.enter("sum two abc abc")
        self.assertEqual(sorted(console.names()), ["abc", "two"])

    def test_new_dict_each_time(self):
        console = Console()
        console.enter("let a = q 3 1: 1")
        one = console.names()
        self.assertIs(type(one), dict)
        one["b"] = hyperbolic("quadratic", 3, 1)
        del one["a"]
        self.assertEqual(console.names(), {"a": read_space("q 3 1: 1")})
        self.assertIsNot(console.names(), console.names())
        self.assertEqual(console.enter("show b").text, "refused name")
        self.assertEqual(console.enter("show a").text, "q 3 1: 1")

    def test_errors_are_entries(self):
        console = Console()
        for line in ("foo", "show a", "let a = ", "x" * 2001, "\t", "\xe4", "sign"):
            self.assertEqual(console.enter(line).kind, "error")
        self.assertEqual(len(console), 7)
        self.assertEqual([line for line, _ in console.entries()][3], "x" * 2001)
        self.assertEqual(read_log(console.log()), list(console.entries()))

    def test_bound(self):
        for most in (0, 1, 2, 5):
            console = Console(most=most)
            for i in range(most):
                console.enter(f"let {'abcde'[i]} = q 3 1: 1")
            state = (len(console), console.entries(), console.names(), console.log())
            for line in ("let z = q 3 1: 2", "", "foo", "show a", "let a = q 3 1: 2"):
                with self.assertRaises(Refused) as caught:
                    console.enter(line)
                self.assertEqual(caught.exception.reason, "lines")
                self.assertEqual((len(console), console.entries(), console.names(), console.log()), state)
            self.assertEqual(len(console), most)

    def test_five_hundred(self):
        console = Console()
        for i in range(500):
            self.assertEqual(console.enter("#" * (i % 7)).kind, "done")
        self.assertEqual(outcome(console.enter, "#"), "lines")
        self.assertEqual(len(console), 500)
        more = Console(most=501)
        for _ in range(501):
            more.enter("")
        self.assertEqual(outcome(more.enter, ""), "lines")

    def test_arguments(self):
        parameter = inspect.signature(Console).parameters["most"]
        self.assertEqual((parameter.kind, parameter.default), (inspect.Parameter.KEYWORD_ONLY, 500))
        self.assertRaises(TypeError, Console, 3)

    def test_consoles_are_apart(self):
        one, two = Console(), Console()
        one.enter("let a = q 3 1: 1")
        self.assertEqual((len(two), two.names(), two.entries()), (0, {}, ()))
        self.assertEqual(two.enter("show a").text, "refused name")
        self.assertEqual(len(one), 1)

    def test_earlier_entries_stay(self):
        console = Console()
        console.enter("let a = q 3 1: 1")
        before = console.entries()
        console.enter("let a = q 3 1: 2")
        self.assertEqual(len(before), 1)
        self.assertEqual(console.entries()[0], before[0])


if __name__ == "__main__":
    unittest.main()
