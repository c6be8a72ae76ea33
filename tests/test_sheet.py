import unittest

from helper import FORMS, Source, nested, normals, odd_values
from wittspaces.build import hyperbolic, zero_space
from wittspaces.console import Console
from wittspaces.errors import NoText
from wittspaces.replies import Reply
from wittspaces.sheet import read_line
from wittspaces.space import Space

# The table of point 11.1: what stands behind the first token. A name, a number, a row, some rows.
TABLE = {
    "sum": "nnn", "times": "nnc", "normal": "nn", "show": "n", "values": "n", "invariants": "n", "order": "n",
    "value": "nx", "product": "nxx", "isometric": "nn", "extends": "nmm", "index": "n", "sign": "n", "factors": "nm",
}

RIGHT = {
    "n": [("a", "a"), ("abcdefgh", "abcdefgh"), ("let", "let"), ("zzzz", "zzzz"), ("show", "show")],
    "c": [(str(c), c) for c in range(9)],
    "x": [("-", ()), ("0", (0,)), ("8", (8,)), ("012345678", tuple(range(9))), ("7" * 30, (7,) * 30), ("00", (0, 0))],
    "m": [(".", ()), ("-", ((),)), ("-,-", ((), ())), ("0", ((0,),)), ("10,01", ((1, 0), (0, 1))),
          ("1,22,333,-", ((1,), (2, 2), (3, 3, 3), ())), (",".join(["0"] * 40), ((0,),) * 40)],
}

WRONG = {
    "n": ["", "A", "abcdefghi", "a1", "a.", "-", "1", "aB", "a,b", "a_", "abcdefghijklm", "=", "#", "a="],
    "c": ["9", "-", "10", "00", "-1", "a", ".", "1.", "+1", "1,", "#"],
    "x": ["9", "--", "-1", "0-", "1,2", ".", "a", "12a", "1.", "09", "(1)", "+1", ",", "1_0", "#", "="],
    "m": ["", ",", "1,", ",1", "1,,2", "..", ".,.", "1,.", ".,1", "9", "1,9", "--", "-1", "a", "1;2", "-,", "1-", "#"],
}


def drawn_line(source, word):
    """A right line with a word, and the command that it tells."""
    parts, told = [word], [word]
    for kind in TABLE[word]:
        choices = RIGHT[kind]
        text, worth = choices[source.below(len(choices))]
        parts.append(text)
        told.append(worth)
    return parts, tuple(told)


class Lines(unittest.TestCase):
    def refuse(self, line):
        with self.assertRaises(NoText, msg=repr(line)) as caught:
            read_line(line)
        self.assertEqual(caught.exception.at, 0)
        self.assertIs(type(caught.exception.at), int)

    def check(self, line, expected):
        found = read_line(line)
        self.assertEqual(found, expected, line)
        self.assertIs(type(found), tuple)
        self.assertEqual(repr(found), repr(expected))


class Commands(Lines):
    def test_every_form(self):
        source = Source(480)
        for word in TABLE:
            for _ in range(40):
                parts, told = drawn_line(source, word)
                self.check(" ".join(parts), told)

    def test_every_token(self):
        """Each right and each wrong token at each place of each form."""
        for word, kinds in TABLE.items():
            first = [RIGHT[kind][1] for kind in kinds]
            for i, kind in enumerate(kinds):
                for text, worth in RIGHT[kind]:
                    parts = [text if k == i else first[k][0] for k in range(len(kinds))]
                    told = [worth if k == i else first[k][1] for k in range(len(kinds))]
                    self.check(" ".join([word] + parts), (word, *told))
                for text in WRONG[kind]:
                    parts = [text if k == i else first[k][0] for k in range(len(kinds))]
                    self.refuse(" ".join([word] + parts))

    def test_spaces(self):
        """Around the tokens and between them."""
        source = Source(481)
        for word in TABLE:
            parts, told = drawn_line(source, word)
            for before, between, behind in (("", "  ", ""), (" ", " ", " "), ("     ", "    ", "   "), ("", " ", " ")):
                self.check(before + between.join(parts) + behind, told)
            # But not within a token, and no other blanks.
            self.refuse("".join(parts))
            for blank in ("\t", "\n", "\r", "\x0b", "\x0c", "\xa0", "\u2003"):
                self.refuse(blank.join(parts))
                self.refuse(" ".join(parts) + blank)
                self.refuse(blank + " ".join(parts))

    def test_numbers_of_tokens(self):
        source = Source(482)
        for word in TABLE:
            parts, _ = drawn_line(source, word)
            for k in range(1, len(parts)):
                self.refuse(" ".join(parts[:k]))
            for more in ("a", "1", ".", "-", "x #", "#"):
                self.refuse(" ".join(parts) + " " + more)

    def test_unknown_words(self):
        for word in ("summ", "Sum", "SUM", "add", "empty", "let", "shows", "=", "read", "defined", "unlike", "1", "."):
            for rest in ("a", "a b", "a b c", "a 1", "a 1 1", "a . .", "a = b"):
                self.refuse(f"{word} {rest}")
        self.refuse("a")
        self.refuse("show")
        self.refuse("empty")


class Definitions(Lines):
    def test_all_kinds(self):
        for kind, q in FORMS:
            for n in range(7):
                for _, matrix in normals(kind, q, n):
                    space = Space(kind, q, matrix)
                    found = read_line(f"let abc = {space}")
                    self.assertEqual((type(found), found[:2], len(found)), (tuple, ("let", "abc"), 3))
                    self.assertIs(type(found[2]), Space)
                    self.assertEqual(found[2], space)

    def test_spaces(self):
        space = hyperbolic("alternating", 3, 1)
        for line in ("let a = {}", "  let a = {}", "let   a   =   {}", "let a = {}    ", "   let  a  =  {}  "):
            self.assertEqual(read_line(line.format(space)), ("let", "a", space))
        self.assertEqual(read_line("let a = q 3 0:"), ("let", "a", zero_space("quadratic", 3, 0)))

    def test_names(self):
        for text, _ in RIGHT["n"]:
            self.assertEqual(read_line(f"let {text} = q 3 1: 1")[1], text)
        for text in WRONG["n"]:
            self.refuse(f"let {text} = q 3 1: 1")

    def test_spoilt(self):
        for line in (
            "let", "let a", "let a =", "let a = ", "let = q 3 1: 1", "let a q 3 1: 1", "let a == q 3 1: 1",
            "let a =q 3 1: 1", "let a= q 3 1: 1", "leta = q 3 1: 1", "let a b = q 3 1: 1", "let a = = q 3 1: 1",
            "let a = q 3 1:  1", "let a = q 3  1: 1", "let a = q 3 1: 3", "let a = q 3 1: 1;", "let a = q 3 1 : 1",
            "let a = q 6 1: 1", "let a = x 3 1: 1", "let a = Q 3 1: 1", "let a = a 3 1: 1", "let a = h 3 1: 1",
            "let a = q 3 2: 1 0; 1 1", "let a = q 3 2: 1 0; 0 1 #", "let a = q 3 1: 1 = 1", "let a = b",
            "let a = q 3 7:" + ";".join([" 0 0 0 0 0 0 0"] * 7), "LET a = q 3 1: 1", "let\ta = q 3 1: 1",
        ):
            self.refuse(line)


class Empty(Lines):
    def test_no_tokens(self):
        for line in ("", " ", "   ", " " * 2000):
            self.check(line, ("empty",))

    def test_comments(self):
        for line in ("#", "# a", "#show a", "##", "# let a = q 3 1: 1", "#" + "~" * 1999, "# " + "= ,;:" * 10):
            self.check(line, ("empty",))

    def test_first_character(self):
        """A comment begins at the first character, not at the first token."""
        for line in (" #", "  # a", " #show a", "show # a"):
            self.refuse(line)
        self.refuse("#" + "\n")
        self.refuse("#" + "\x7f")


class Bounds(Lines):
    def test_length(self):
        self.check("show a" + " " * 1994, ("show", "a"))
        self.refuse("show a" + " " * 1995)
        self.check("#" * 2000, ("empty",))
        self.refuse("#" * 2001)
        self.refuse(" " * 2001)
        row = "1" * (2000 - len("value a "))
        self.check("value a " + row, ("value", "a", (1,) * len(row)))
        self.refuse("value a " + row + "1")
        rows = "1," * 990 + "1"
        self.check("factors a " + rows, ("factors", "a", ((1,),) * 991))
        self.refuse("show a" + " " * 10 ** 5)

    def test_characters(self):
        for code in (*range(32), *range(127, 256), 0x2028, 0x3042, 0x1f600, 0xd800):
            self.refuse("#" + chr(code))
            self.refuse("show " + chr(code))
            self.refuse("show a" + chr(code))
            self.refuse(chr(code))
        for code in range(32, 127):
            self.check("#" + chr(code), ("empty",))
        # These are digits and letters, but not those of the table.
        for text in ("value a \u0661", "value a \uff11", "show \xe4", "show \u0430", "value a \xb2"):
            self.refuse(text)

    def test_odd_values(self):
        space = hyperbolic("quadratic", 3, 1)
        for value in odd_values():
            if value != "":
                self.refuse(value)
        for value in (b"show a", ["show a"], ("show", "a"), ("show a",), {"show": "a"}, space, str, Console(),
                      Reply("a"), read_line, nested(tuple, 60), nested(list, 60), 0, 1):
            self.refuse(value)


if __name__ == "__main__":
    unittest.main()
