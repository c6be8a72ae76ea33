import unittest

from helper import FORMS, Source, nested, odd_values
from maps import spaces_of
from wittspaces.build import hyperbolic
from wittspaces.console import Console
from wittspaces.errors import Malformed, NoText
from wittspaces.field import Field
from wittspaces.log import first_wrong, read_data, read_log, write_data, write_log
from wittspaces.replies import Reply, reply_to
from wittspaces.space import Space

# Plain data and their written forms.
TOLD = [
    (0, "0"), (7, "7"), (-1, "-1"), (9999, "9999"), (-9999, "-9999"), (10, "10"), (-10, "-10"), ("a", "a"),
    ("abcdefghijkl", "abcdefghijkl"), ((), "()"), ((0,), "(0)"), ((1, -2, "x"), "(1 -2 x)"), (((),), "(())"),
    (((), ()), "(() ())"), ((1, (2, ("three", ())), 4), "(1 (2 (three ())) 4)"),
    (("isometry", ((0, 1), (1, 0))), "(isometry ((0 1) (1 0)))"), (("unlike",), "(unlike)"),
]

WRONG_DATA = [
    True, False, None, "", "A", "aB", "a1", "a b", "abcdefghijklm", "-", "1", "a\n", "\xe4", 10000, -10000, 10 ** 40,
    [], [1], (True,), (None,), ([],), (1, [2]), ((1, ("A",)),), ("",), ("a b",), (10000,), ((-10000,),), {}, (1, {}),
    Field(3), (Field(3),), hyperbolic("quadratic", 3, 1), Reply("a"), (Reply("a"),), Console(), b"a", str,
]

WRONG_TEXTS = [
    "", " ", "A", "a1", "1a", "abcdefghijklm", "00", "01", "-0", "-01", "--1", "-", "+1", "1.0", "10000", "-10000",
    "99999", "1e3", " 1", "1 ", "1 2", "a b", "(", ")", "(()", "())", ")(", "()()", "() ()", "( )", "(1 )", "( 1)",
    "(1  2)", "(1 2) ", " (1 2)", "(1, 2)", "(1,2)", "[1 2]", "(1)(2)", "(1(2))", "((1)(2))", "((1)2)", "(1\n2)",
    "(1\t2)", "()\n", "\n", "\"a\"", "'a'", "(True)", "(None)", "None", "(a A)", "(-)", "(- 1)", "(1-2)", "(0x1)",
    "\u0661", "(\uff11)", "\xe4", "1_0", "(01)", "(-0)", "(1 (2 03))", "1" * 5000, "(" * 5000, ")" * 5000, "a" * 5000,
    "(" * 100000 + ")" * 100000,
]


def deep(depth, inside=()):
    """Tuples nested so deep."""
    found = inside
    for _ in range(depth - 1):
        found = (found,)
    return found


def drawn_data(source, depth):
    choice = source.below(6)
    if depth == 0 or choice < 2:
        return source.below(19999) - 9999
    if choice == 2:
        return "".join("abcdefghijklmnopqrstuvwxyz"[source.below(26)] for _ in range(1 + source.below(12)))
    return tuple(drawn_data(source, depth - 1) for _ in range(source.below(5)))


class Data(unittest.TestCase):
    def refuse(self, text):
        with self.assertRaises(NoText, msg=repr(text)[:60]) as caught:
            read_data(text)
        self.assertEqual(caught.exception.at, 0)

    def test_told(self):
        for data, text in TOLD:
            self.assertEqual(write_data(data), text)
            self.assertEqual(repr(read_data(text)), repr(data))

    def test_back_and_forth(self):
        source = Source(520)
        for _ in range(2000):
            data = drawn_data(source, 6)
            text = write_data(data)
            self.assertIs(type(text), str)
            self.assertEqual(repr(read_data(text)), repr(data))
            self.assertEqual(write_data(read_data(text)), text)
            # The form, by the words of point 11.6.
            plain = repr(data).replace(",)", ")").replace(", ", " ").replace("'", "")
            self.assertEqual(text, plain)

    def test_depth(self):
        for inside in ((), (1,), ("a", -1), (1, 2, 3)):
            data = deep(20, inside)
            text = "(" * 20 + " ".join(map(str, inside)) + ")" * 20
            self.assertEqual(write_data(data), text)
            self.assertEqual(read_data(text), data)
            for more in (21, 22, 60):
                self.assertRaises(Malformed, write_data, deep(more, inside))
                self.refuse("(" * more + " ".join(map(str, inside)) + ")" * more)
        self.assertEqual(write_data((1, deep(19), 2)), "(1 " + "(" * 19 + ")" * 19 + " 2)")
        self.assertRaises(Malformed, write_data, (1, deep(20), 2))
        self.refuse("(1 " + "(" * 20 + ")" * 20 + " 2)")

    def test_all_integers(self):
        for c in range(-10050, 10051):
            if -9999 <= c <= 9999:
                self.assertEqual(write_data(c), str(c))
                self.assertEqual(read_data(str(c)), c)
            else:
                self.assertRaises(Malformed, write_data, c)
                self.refuse(str(c))

    def test_labels(self):
        for k in range(1, 13):
            self.assertEqual(write_data("z" * k), "z" * k)
            self.assertEqual(read_data("z" * k), "z" * k)
            self.assertEqual(read_data(f"({'a' * k})"), ("a" * k,))
        for k in (13, 14, 100):
            self.assertRaises(Malformed, write_data, "z" * k)
            self.refuse("z" * k)
            self.refuse(f"({'z' * k})")

    def test_wrong_data(self):
        for wrong in WRONG_DATA + [nested(list, 60), nested(tuple, 60)]:
            self.assertRaises(Malformed, write_data, wrong)
            self.assertRaises(Malformed, write_data, (1, wrong))
            self.assertRaises(Malformed, write_data, ((wrong,), 1))

    def test_wrong_texts(self):
        for wrong in WRONG_TEXTS:
            self.refuse(wrong)
        for wrong in odd_values() + [b"1", 1, ["1"], ("1",), {"1": 1}, (), Reply("a"), Console()]:
            if wrong not in ("quadratic", "0", "1"):
                self.refuse(wrong)

    def test_spoilt_texts(self):
        """A written form with one sign changed is the written form of what it reads as, or of nothing."""
        for _, text in TOLD:
            for i in range(len(text) + 1):
                for sign in ("", " ", "(", ")", "-", "0", "1", "a", "A", ",", "\n"):
                    for spoilt in (text[:i] + sign + text[i:], text[:i] + sign + text[i + 1:]):
                        try:
                            data = read_data(spoilt)
                        except NoText as fault:
                            self.assertEqual(fault.at, 0)
                        else:
                            self.assertEqual(write_data(data), spoilt)


ENTRIES = [
    ("let a = q 3 2: 1 0; 0 2", Reply("space", "q 3 2: 1 0; 0 2")), ("", Reply("done")), ("# x", Reply("done")),
    ("sign a", Reply("sign", "1", ("sign", 1, (2, 0, 0, 1), 0))), ("foo", Reply("error", "text")),
    ("> = #", Reply("abcdefghijkl", "= # > ()", ((), (1,), "x", deep(19)))), ("\x00\t\r\x0b\u2028", Reply("a", " \r ")),
]

TEXT = (
    "> let a = q 3 2: 1 0; 0 2\n= space q 3 2: 1 0; 0 2\n# ()\n> \n= done \n# ()\n> # x\n= done \n# ()\n"
    "> sign a\n= sign 1\n# (sign 1 (2 0 0 1) 0)\n> foo\n= error text\n# ()\n"
    "> > = #\n= abcdefghijkl = # > ()\n# (() (1) x " + "(" * 19 + ")" * 19 + ")\n"
    "> \x00\t\r\x0b\u2028\n= a  \r \n# ()\n"
)


class Logs(unittest.TestCase):
    def refuse(self, text, at):
        with self.assertRaises(NoText, msg=repr(text)[:200]) as caught:
            read_log(text)
        self.assertEqual(caught.exception.at, at, repr(text)[:200])
        self.assertIs(type(caught.exception.at), int)

    def test_told(self):
        self.assertEqual(write_log(ENTRIES), TEXT)
        found = read_log(TEXT)
        self.assertIs(type(found), list)
        self.assertEqual(found, ENTRIES)
        self.assertEqual({type(entry) for entry in found}, {tuple})
        self.assertEqual({type(reply) for _, reply in found}, {Reply})
        self.assertEqual(write_log([]), "")
        self.assertEqual(read_log(""), [])

    def test_back_and_forth(self):
        source = Source(521)
        signs = "ab =>#()- 09,;\t\r"
        for _ in range(300):
            entries = []
            for _ in range(source.below(6)):
                line, text = ("".join(signs[source.below(len(signs))] for _ in range(source.below(9))) for _ in "xy")
                data = tuple(drawn_data(source, 3) for _ in range(source.below(4)))
                entries.append((line, Reply("abc"[:1 + source.below(3)], text, data)))
            written = write_log(entries)
            self.assertEqual(written.count("\n"), 3 * len(entries))
            self.assertEqual(read_log(written), entries)
            self.assertEqual(write_log(read_log(written)), written)

    def test_wrong_items(self):
        right = ("show a", Reply("a"))
        wrong = odd_values() + [
            ["show a", Reply("a")], ("show a",), ("show a", Reply("a"), ()), (), right[1], "show a", (right,),
            (Reply("a"), "show a"), ("show a", "a"), ("show a", ("a", "", ())), ("show a", None), (None, Reply("a")),
            (1, Reply("a")), ("a\nb", Reply("a")), ("\n", Reply("a")), (b"a", Reply("a")), (["a"], Reply("a")),
            ("a", Reply("")), ("a", Reply("A")), ("a", Reply("a b")), ("a", Reply("abcdefghijklm")), ("a", Reply(1)),
            ("a", Reply(None)), ("a", Reply(("a",))), ("a", Reply("a1")), ("a", Reply("a", "x\ny")),
            ("a", Reply("a", None)), ("a", Reply("a", 1)), ("a", Reply("a", ("x",))), ("a", Reply("a", "\n")),
            ("a", Reply("a", "", [])), ("a", Reply("a", "", 1)), ("a", Reply("a", "", "x")),
            ("a", Reply("a", "", None)),
            ("a", Reply("a", "", (True,))), ("a", Reply("a", "", ([],))), ("a", Reply("a", "", ("",))),
            ("a", Reply("a", "", (10000,))), ("a", Reply("a", "", (None,))), ("a", Reply("a", "", deep(21))),
            ("a", Reply("a", "", (Reply("a"),))), ("a", Reply("a", "", nested(tuple, 60))),
        ]
        for entry in wrong:
            for entries in ([entry], [right, entry], [entry, right], [right, right, entry, right]):
                self.assertRaises(Malformed, write_log, entries)
        self.assertEqual(write_log([("a", Reply("a", "", deep(20)))]), "> a\n= a \n# " + "(" * 20 + ")" * 20 + "\n")

    def test_no_strings(self):
        for wrong in odd_values() + [b"", [TEXT], (TEXT,), ENTRIES, 1, None, Reply("a"), Console()]:
            if type(wrong) is not str:
                self.refuse(wrong, 0)

    def test_first_wrong_line(self):
        """Each line spoilt, the lines behind it too or not."""
        lines = TEXT.split("\n")[:-1]
        spoilt = {
            0: ["", ">", ">x", "= done ", "# ()", " > x", "x", "show a", "<> x"],
            1: ["", "=", "= ", "= done", "=done ", "= Done ", "=  ", "=  x", "= a1 x", "= abcdefghijklm ", "> x",
                "# ()", " = a ", "= \ta ", "= a\t"],
            2: ["", "#", "# ", "#()", "# x", "# 1", "# ( )", "# (", "# ()) ", "# () ", "#  ()", "# (01)", "# (A)",
                "> x", "= a ", "# (1  2)", " # ()", "# (10000)", "# " + "(" * 21 + ")" * 21,
                "# (abcdefghijklm)", "# () ()"],
        }
        for at in range(len(lines)):
            for wrong in spoilt[at % 3]:
                for behind in (lines[at + 1:], [], ["wrong"] * 3):
                    self.refuse("\n".join(lines[:at] + [wrong] + behind) + "\n", at)
                if wrong:
                    # Without a line feed at its end it is the number of line feeds, which is the same.
                    self.refuse("\n".join(lines[:at] + [wrong]), at)

    def test_dropped_lines(self):
        lines = TEXT.split("\n")[:-1]
        for at in range(len(lines) - 1):
            # The next line stands at a wrong place, unless it looks as it should there.
            self.refuse("\n".join(lines[:at] + lines[at + 1:]) + "\n", at)

    def test_ends_too_early(self):
        lines = TEXT.split("\n")[:-1]
        for at in range(len(lines) + 1):
            text = "".join(line + "\n" for line in lines[:at])
            if at % 3 == 0:
                self.assertEqual(read_log(text), ENTRIES[:at // 3])
            else:
                self.refuse(text, at)
            if at:
                self.refuse(text[:-1], at - 1)
            for more in (">", "> x", "= a ", "# ()", " ", "x", "> "):
                self.refuse(text + more, at)
        self.refuse("x", 0)
        self.refuse("\n", 0)
        self.refuse("> a\n\n", 1)
        self.refuse(TEXT + "\n", len(lines))
        self.refuse(" " + TEXT, 0)
        # A carriage return may stand in a line and in a text, but not behind the data.
        self.refuse(TEXT.replace("\n", "\r\n"), 2)


class FirstWrong(unittest.TestCase):
    def entries_of(self, lines):
        console = Console()
        for line in lines:
            console.enter(line)
        return list(console.entries())

    def test_right_lists(self):
        self.assertEqual(first_wrong([]), -1)
        for kind, q in FORMS:
            spaces = spaces_of(Source(522), kind, q, 2)
            lines = ["show a"]
            for space in spaces:
                lines += [f"let a = {space}", "show a", "index a", "normal b a", "isometric a b", "sum c a b", "sign c",
                          "extends a 10 10", "factors a 10,01", "values c", "let a = x", "", "times a a 1", "order a"]
            entries = self.entries_of(lines)
            before = list(entries)
            self.assertEqual(first_wrong(entries), -1)
            self.assertEqual(entries, before)
            self.assertEqual(first_wrong(read_log(write_log(entries))), -1)

    def test_index(self):
        lines = ["let a = q 3 2: 1 0; 0 2", "sign a", "# x", "show b", "let b = q 3 1: 1", "sum a a b", "value a 111",
                 "foo", "index a", "let a = q 5 0:", "show a"]
        entries = self.entries_of(lines)
        for at in range(len(entries)):
            line, reply = entries[at]
            for wrong in (
                (line, Reply(reply.kind, reply.text + "x", reply.data)), (line, Reply("x", reply.text, reply.data)),
                (line, Reply(reply.kind, reply.text, reply.data + (1,))), [line, reply], (line,), line, reply, None,
                (line, reply, ()), (reply, line), (None, Reply("done")), True, 0, (), [], "",
                nested(tuple, 60), Field(2),
                (line, Reply(reply.kind, reply.text, list(reply.data))), (line, None), ("show zz", Reply("done")),
            ):
                for behind in (entries[at + 1:], [], [None] * 3):
                    self.assertEqual(first_wrong(entries[:at] + [wrong] + behind), at)

    def test_definitions(self):
        """Each entry is right over the definitions that the lines before it leave."""
        one, two = "q 3 1: 1", "q 3 1: 2"
        first = (f"let a = {one}", Reply("space", one))
        second = (f"let a = {two}", Reply("space", two))
        shows = [("show a", Reply("space", one)), ("show a", Reply("space", two))]
        self.assertEqual(first_wrong([first, shows[0]]), -1)
        self.assertEqual(first_wrong([first, shows[1]]), 1)
        self.assertEqual(first_wrong([first, second, shows[1]]), -1)
        self.assertEqual(first_wrong([first, second, shows[0]]), 2)
        self.assertEqual(first_wrong([shows[0], first]), 0)
        self.assertEqual(first_wrong([("show a", Reply("error", "refused name")), first, shows[0]]), -1)
        # A definition that is refused leaves the earlier one.
        refused = ("times a a 3", Reply("error", "malformed"))
        self.assertEqual(first_wrong([first, refused, shows[0]]), -1)
        self.assertEqual(first_wrong([first, ("times a a 2", Reply("space", two)), shows[1]]), -1)
        self.assertEqual(first_wrong([first, ("normal b a", Reply("space", one)), ("show b", Reply("space", one))]), -1)

    def test_other_papers(self):
        space = Space("quadratic", 3, ((1, 0), (0, 2)))
        entries = [(f"let a = {space}", Reply("space", str(space)))]
        entries.append(("isometric a a", Reply("isometric", "yes", ("isometry", ((2, 0), (0, 2))))))
        entries.append(("factors a 20,01", Reply("factors", "3", ("factors", ((1, 0), (1, 0), (2, 0))))))
        self.assertEqual(first_wrong(entries), -1)
        entries.append(("factors a 20,01", Reply("factors", "2", ("factors", ((1, 0), (2, 0))))))
        self.assertEqual(first_wrong(entries), 3)

    def test_lines_that_are_none(self):
        entries = [(line, reply_to({}, line)) for line in (None, 1, ("show", "a"), [], "x" * 2001, "\n")]
        self.assertEqual({reply.text for _, reply in entries}, {"text"})
        self.assertEqual(first_wrong(entries), -1)
        self.assertEqual(first_wrong(entries + [(None, Reply("done"))]), len(entries))


if __name__ == "__main__":
    unittest.main()
