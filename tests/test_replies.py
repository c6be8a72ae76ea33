import unittest
from itertools import product

from helper import FORMS, SIZES, Source, nested, odd_values
from maps import drawn_isometry, outcome, spaces_of, told, units
from multiplied import (
    barred, every_space, holds_extension, holds_factors, holds_index, holds_isometry, holds_sign, images,
    some_spoilt,
)
from wittspaces.build import direct_sum, hyperbolic, scaled, zero_space
from wittspaces.console import Console
from wittspaces.counts import value_counts
from wittspaces.errors import NoText
from wittspaces.field import Field
from wittspaces.groups import group_order
from wittspaces.isometry import Isometry
from wittspaces.normal import invariants, normal_form, sign
from wittspaces.papers import extension_paper, factors_paper, index_paper, isometry_paper, sign_paper
from wittspaces.replies import Reply, defined, is_right, reply_to
from wittspaces.similar import isometric, witt_index
from wittspaces.space import Space

PAPERS = ("isometric", "extends", "index", "sign", "factors")

ODD_LINES = odd_values() + [b"show a", ["show a"], ("show", "a"), {"show": "a"}, nested(tuple, 60), nested(list, 60),
                            hyperbolic("quadratic", 3, 1), Field(3), Reply("a"), Console(), NoText(0), "x" * 2001]


def row_text(x):
    return "".join(map(str, x)) if x else "-"


def rows_text(rows):
    return ",".join(map(row_text, rows)) if rows else "."


def shown(reply):
    return reply.kind, reply.text, reply.data


class Replies(unittest.TestCase):
    def check(self, names, line, kind, text, data=()):
        before = list(names.items())
        found = reply_to(names, line)
        self.assertIs(type(found), Reply)
        self.assertEqual(shown(found), (kind, text, data), (line, [str(space) for space in names.values()]))
        self.assertEqual(repr(found.data), repr(data))
        self.assertEqual([(name, id(space)) for name, space in names.items()], [(n, id(s)) for n, s in before])
        return found


class Objects(unittest.TestCase):
    def test_fields(self):
        self.assertEqual(shown(Reply("done")), ("done", "", ()))
        self.assertEqual(shown(Reply("space", "q 3 0:")), ("space", "q 3 0:", ()))
        self.assertEqual(shown(Reply("a", "b", (1, ("c",)))), ("a", "b", (1, ("c",))))
        self.assertEqual(shown(Reply(kind="a", data=(1,), text="b")), ("a", "b", (1,)))

    def test_equality(self):
        one = Reply("a", "b", (1, ("c",)))
        self.assertIs(one == Reply("a", "b", (1, ("c",))), True)
        self.assertIs(one == one, True)
        self.assertIs(Reply("a") == Reply("a", "", ()), True)
        for other in (Reply("b", "b", (1, ("c",))), Reply("a", "", (1, ("c",))), Reply("a", "b", (1, ("d",))),
                      Reply("a", "b"), Reply("a", "b", [1, ("c",)]), Reply("a", "b", (1, ["c"])), Reply("")):
            self.assertIs(one == other, False)
            self.assertIs(other == one, False)
        for other in odd_values() + [("a", "b", (1, ("c",))), "a", ["a"], Console(), {"kind": "a"}]:
            self.assertIs(one == other, False)


class Spaces(Replies):
    def test_definitions(self):
        source = Source(500)
        for space in every_space(source, 4):
            names = {"b": space, "c": hyperbolic(space.kind, space.q, 1)}
            self.check({}, f"let a = {space}", "space", str(space))
            self.check(names, f"let b = {space}", "space", str(space))
            self.check(names, "show b", "space", str(space))
            self.check(names, "normal a b", "space", str(normal_form(space)[0]))
            self.check(names, "sum a b c", "space", str(direct_sum(space, names["c"])))
            self.check(names, "sum b c b", "space", str(direct_sum(names["c"], space)))
            for c in range(9):
                if c >= space.q or (space.kind == "hermitian" and not space.field.is_fixed(c)):
                    self.check(names, f"times b b {c}", "error", "malformed")
                    self.assertIsNone(defined(names, f"times b b {c}"))
                else:
                    self.check(names, f"times b b {c}", "space", str(scaled(space, c)))
                    self.assertEqual(defined(names, f"times b b {c}"), ("b", scaled(space, c)))
            for line, expected in (
                (f"let zz = {space}", ("zz", space)), ("sum zz b c", ("zz", direct_sum(space, names["c"]))),
                ("normal b b", ("b", normal_form(space)[0])),
            ):
                found = defined(names, line)
                self.assertEqual((type(found), found), (tuple, expected))
            for line in ("show b", "", "# a", "values b", "index b", "isometric b c", "let b", "sum a b d", "a"):
                self.assertIsNone(defined(names, line))
            self.assertEqual(list(names), ["b", "c"])

    def test_errors(self):
        names = {kind[0] + str(q): zero_space(kind, q, 3) for kind, q in FORMS}
        names = {"abcdefgh"[i // 8] + "abcdefgh"[i % 8]: space for i, space in enumerate(names.values())}
        big = {name: zero_space(space.kind, space.q, 4) for name, space in names.items()}
        for (one, a), (two, b) in product(names.items(), names.items()):
            if told(a)[:2] != told(b)[:2]:
                self.check(names, f"sum x {one} {two}", "error", "malformed")
            else:
                self.check(names, f"sum x {one} {two}", "space", str(zero_space(a.kind, a.q, 6)))
                self.check(big, f"sum x {one} {two}", "error", "refused large")
                self.assertIsNone(defined(big, f"sum x {one} {two}"))
            self.assertIsNotNone(defined(names, f"let x = {a}"))


class Numbers(Replies):
    def test_numbers(self):
        source = Source(501)
        for space in every_space(source, 6):
            names = {"a": space}
            self.check(names, "values a", "numbers", " ".join(str(c) for c in value_counts(space)))
            self.check(names, "invariants a", "numbers", " ".join(str(c) for c in invariants(space)))
            self.check(names, " order  a ", "number", str(group_order(space)))
            for _ in range(3):
                x, y = source.rows(space.q, space.n, 2)
                self.check(names, f"value a {row_text(x)}", "number", str(space.value(x)))
                self.check(names, f"product a {row_text(x)} {row_text(y)}", "number", str(space.product(x, y)))

    def test_told(self):
        names = {"a": Space("quadratic", 3, ((1, 0), (0, 2))), "b": Space("quadratic", 3, ((1, 0), (0, 1)))}
        self.check(names, "values a", "numbers", "5 2 2")
        self.check(names, "invariants a", "numbers", "2 0 0 -1")
        self.check(names, "invariants b", "numbers", "2 0 0 1")
        self.check(names, "order b", "number", "8")
        self.check(names, "value a 11", "number", "0")
        self.check(names, "product a 11 10", "number", "2")
        zero = {"a": zero_space("alternating", 7, 0)}
        self.check(zero, "values a", "numbers", "1 0 0 0 0 0 0")
        self.check(zero, "value a -", "number", "0")
        self.check(zero, "product a - -", "number", "0")
        self.check(zero, "order a", "number", "1")

    def test_nothing(self):
        for line in ("", "   ", "#", "# show a"):
            self.check({}, line, "done", "")


class Shown(Replies):
    """Lines with papers."""

    def both(self, names, line, kind, text, paper, holds):
        found = self.check(names, line, kind, text, paper)
        self.assertTrue(holds(found.data))
        self.assertIs(is_right(names, (line, found)), True)

    def test_isometric(self):
        source = Source(502)
        for kind, q in FORMS:
            spaces = [space for n in range(4) for space in spaces_of(source, kind, q, n)]
            for a, b in product(spaces, spaces[::2]):
                text = "yes" if isometric(a, b) else "no"
                self.both({"a": a, "bb": b}, "isometric a bb", "isometric", text, isometry_paper(a, b),
                          lambda paper: holds_isometry(a, b, paper))
        names = {"a": zero_space("quadratic", 3, 2), "b": zero_space("quadratic", 5, 2)}
        self.check(names, "isometric a b", "isometric", "no", ("unlike",))
        self.check(names, "isometric b b", "isometric", "yes", isometry_paper(names["b"], names["b"]))

    def test_extends(self):
        source, seen = Source(503), set()
        for space in every_space(source, 4):
            found = [images(source, space, min(space.n, k)) for k in (0, 2)] + [barred(source, space)]
            for us, vs in [one for one in found if one is not None]:
                paper = extension_paper(space, us, vs)
                text = "yes" if paper[0] == "extension" else "no"
                self.both({"x": space}, f"extends x {rows_text(us)} {rows_text(vs)}", "extends", text, paper,
                          lambda one: holds_extension(space, us, vs, one))
                seen.add(text)
        self.assertEqual(seen, {"yes", "no"})

    def test_index(self):
        for space in every_space(Source(504), 5):
            self.both({"a": space}, "index a", "index", str(witt_index(space)), index_paper(space),
                      lambda paper: holds_index(space, paper))

    def test_sign(self):
        for q in SIZES:
            for n in range(7):
                for space in spaces_of(Source(505), "quadratic", q, n):
                    due = outcome(sign_paper, space)
                    if due is None:
                        self.both({"a": space}, "sign a", "sign", str(sign(space)), sign_paper(space),
                                  lambda paper: holds_sign(space, paper))
                    else:
                        self.check({"a": space}, "sign a", "error", f"refused {due}")

    def test_factors(self):
        source = Source(506)
        for space in every_space(source, 4):
            matrix = drawn_isometry(source, space)
            f = Isometry(space, matrix)
            due = outcome(factors_paper, f)
            line = f"factors a {rows_text(matrix)}"
            if due is None:
                paper = factors_paper(f)
                self.both({"a": space}, line, "factors", str(len(paper[1])), paper, lambda one: holds_factors(f, one))
            else:
                self.check({"a": space}, line, "error", f"refused {due}")


class Errors(Replies):
    def test_text_is_first(self):
        for line in ("show", "show A", "value zz 9", "sum a", "foo", "let zz = q 3 1: 3", "times a zz 9", " #"):
            self.check({}, line, "error", "text")
            self.assertIsNone(defined({}, line))
        for line in ODD_LINES:
            if line != "":
                self.check({}, line, "error", "text")
                self.check({"a": hyperbolic("quadratic", 3, 1)}, line, "error", "text")
            self.assertIsNone(defined({}, line))

    def test_names_are_second(self):
        names = {"a": hyperbolic("quadratic", 3, 1)}
        for line in (
            "sum x a b", "sum x b a", "sum b c d", "times x b 8", "normal x b", "show b", "values b", "invariants b",
            "order b", "value b 11", "value b 8", "product b 1 888", "isometric a b", "isometric b a", "extends b 8 1",
            "extends b . .", "index b", "sign b", "factors b 11,8", "factors aa .", "show aaaaaaaa",
        ):
            self.check(names, line, "error", "refused name")
            self.assertIsNone(defined(names, line))

    def test_rows_are_third(self):
        for kind, q in FORMS:
            names = {"a": hyperbolic(kind, q, 1), "b": zero_space(kind, q, 0)}
            wrong = ["1", "111", "-", "0"] + [f"{c}0" for c in range(q, 9)]
            for x in wrong:
                for line in (f"value a {x}", f"product a {x} 10", f"product a 10 {x}", f"extends a {x} 10",
                             f"extends a 10 {x}", f"extends a 10,{x} .", f"extends a . 10,{x}", f"factors a {x}",
                             f"factors a 10,{x}", f"factors a {x},01", f"extends a 00 {x}", f"factors a 10,01,{x}"):
                    self.check(names, line, "error", "refused row")
            for line in ("value b 0", "product b - 1", "extends b 0 .", "factors b 0", "extends b - 0"):
                self.check(names, line, "error", "refused row")

    def test_chapters_are_last(self):
        names = {
            "a": hyperbolic("quadratic", 3, 1), "b": hyperbolic("quadratic", 2, 1), "f": hyperbolic("quadratic", 2, 3),
            "h": hyperbolic("hermitian", 4, 1), "s": hyperbolic("alternating", 3, 1),
            "z": zero_space("quadratic", 3, 2), "n": zero_space("quadratic", 3, 0),
            "k": zero_space("alternating", 2, 1),
        }
        for line, text in (
            ("extends a 10 .", "malformed"), ("extends a . 10", "malformed"), ("extends a 10,01 10", "malformed"),
            ("extends a 10,20 10,20", "refused dependent"), ("extends a 00 00", "refused dependent"),
            ("extends a 10 11", "refused partial"), ("extends s 10,01 10,02", "refused partial"),
            ("factors a .", "malformed"), ("factors a 10", "malformed"), ("factors a 10,01,00", "malformed"),
            ("factors a 10,00", "refused isometry"), ("factors a 11,01", "refused isometry"),
            ("factors h 20,01", "refused isometry"), ("factors h 10,01", "refused kind"), ("factors h 10", "malformed"),
            ("factors b 10,01", "refused two"), ("factors z 10,01", "refused radical"),
            ("factors k 1", "refused radical"), ("factors z 10,10", "refused isometry"),
            ("factors n -", "malformed"), ("sign h", "refused kind"),
            ("sign s", "refused kind"), ("sign z", "refused radical"), ("sign f", "refused even"),
            ("times x a 3", "malformed"), ("times x h 2", "malformed"), ("sum x a b", "malformed"),
            ("sum x a s", "malformed"),
        ):
            self.check(names, line, "error", text)
            self.assertIsNone(defined(names, line))
        self.check(names, "factors n .", "factors", "0", ("factors", ()))
        self.check(names, "extends n . .", "extends", "yes", ("extension", ()))
        self.check(names, "isometric n n", "isometric", "yes", ("isometry", ()))
        self.check(names, "index n", "index", "0", ("index", (), (), ()))


class Right(unittest.TestCase):
    def test_other_lines(self):
        """The reply is that of point 11.3."""
        names = {"a": Space("quadratic", 3, ((1, 0), (0, 2))), "h": hyperbolic("hermitian", 4, 1)}
        lines = ["let b = q 3 1: 1", "sum b a a", "times b a 2", "normal b a", "show a", "values a", "invariants a",
                 "order a", "value a 11", "product a 11 10", "", "# a", "foo", "show b", "value a 1", "times b a 8",
                 "sign h", "factors a 10", "factors h 10,01", "extends a 10 11", "extends a 1 1", "index b", *ODD_LINES]
        for line in lines:
            found = reply_to(names, line)
            self.assertIs(is_right(names, (line, found)), True)
            self.assertIs(is_right(names, (line, Reply(found.kind, found.text, found.data))), True)
            for kind, text, data in (
                (found.kind + "s", found.text, found.data), (found.kind, found.text + " ", found.data),
                (found.kind, found.text, (0,)), (found.kind, found.text, []), (found.kind, found.text, None),
                ("error", "other", ()), ("", "", ()), (None, None, None), (found.kind, None, ()),
                (True, found.text, ()),
                ("sign", "1", ("sign", 1, (1, 0, 0, 2), 0)), ("isometric", "no", ("unlike",)), ("done", "x", ()),
            ):
                self.assertIs(is_right(names, (line, Reply(kind, text, data))), False, (line, kind, text))

    def shown(self, space, line, name="a"):
        found = reply_to({name: space}, line)
        self.assertIs(is_right({name: space}, (line, found)), True)
        return found

    def test_other_papers(self):
        """Papers that the checker accepts, with their own texts."""
        q = 3
        space = Space("quadratic", q, ((1, 0), (0, 2)))
        names = {"a": space}
        for line, text, paper in (
            ("isometric a a", "yes", ("isometry", ((2, 0), (0, 1)))), ("isometric a a", "yes", ("isometry", units(2))),
            ("extends a . .", "yes", ("extension", ((2, 0), (0, 2)))),
            ("index a", "1", ("index", (((1, 1), (1, 2)),), (), ())),
            ("index a", "1", ("index", (((1, 2), (1, 1)),), (), ())),
            ("factors a 10,01", "2", ("factors", ((1, 0), (1, 0)))), ("factors a 10,01", "0", ("factors", ())),
            ("factors a 10,01", "4", ("factors", ((1, 0), (0, 1), (0, 2), (2, 0)))),
            ("factors a 20,01", "1", ("factors", ((2, 0),))), ("factors a 20,01", "3", ("factors", ((1, 0),) * 3)),
        ):
            self.assertIs(is_right(names, (line, Reply(line.split()[0], text, paper))), True, (line, paper))
            for wrong in ("yes", "no", "0", "1", "2", "3", "4", "", "-1", None, 1, "1 "):
                if wrong != text:
                    self.assertIs(is_right(names, (line, Reply(line.split()[0], wrong, paper))), False)
            for kind in (*PAPERS, "error", "number", "", None):
                if kind != line.split()[0]:
                    self.assertIs(is_right(names, (line, Reply(kind, text, paper))), False)
        word, e, z, d = sign_paper(space)
        minus = tuple((int(i == 0) - c) % 3 for i, c in enumerate(z))
        self.assertIs(is_right(names, ("sign a", Reply("sign", str(e), (word, e, minus, d)))), True)
        self.assertIs(is_right(names, ("sign a", Reply("sign", str(-e), (word, e, z, d)))), False)
        self.assertIs(is_right(names, ("sign a", Reply("sign", str(-e), (word, -e, z, d)))), False)
        self.assertIs(is_right(names, ("sign a", Reply("sign", e, (word, e, z, d)))), False)

    def test_spoilt_papers(self):
        """Right exactly if they hold, with the text of the right reply."""
        source = Source(510)
        for space in every_space(source, 2):
            us, vs = images(source, space, min(space.n, 1))
            f = Isometry(space, drawn_isometry(source, space))
            for line, holds in (
                ("isometric a a", lambda one: holds_isometry(space, space, one)),
                (f"extends a {rows_text(us)} {rows_text(vs)}", lambda one: holds_extension(space, us, vs, one)),
                ("index a", lambda one: holds_index(space, one)), ("sign a", lambda one: holds_sign(space, one)),
                (f"factors a {rows_text(f.matrix)}", lambda one: holds_factors(f, one)),
            ):
                found = self.shown(space, line)
                if found.kind == "error":
                    continue
                for paper in some_spoilt(source, space.q, found.data, 12):
                    text = self.text(found.kind, paper)
                    right = holds(paper)
                    entry = (line, Reply(found.kind, text, paper))
                    self.assertIs(is_right({"a": space}, entry), right, (told(space), line, paper))
                    self.assertIs(is_right({"a": space}, (line, Reply(found.kind, "9" + text, paper))), False)

    def text(self, kind, paper):
        """The text that belongs to the paper, if it has the form of one."""
        try:
            if kind in ("isometric", "extends"):
                return "yes" if paper[0] in ("isometry", "extension") else "no"
            return str(paper[1]) if kind == "sign" else str(len(paper[1]))
        except (TypeError, IndexError):
            return ""

    def test_no_entries(self):
        names = {"a": hyperbolic("quadratic", 3, 1)}
        right = Reply("space", "q 3 2: 0 1; 0 0")
        self.assertIs(is_right(names, ("show a", right)), True)
        wrong = odd_values() + ODD_LINES + [
            ["show a", right], ("show a",), ("show a", right, ()), (right, "show a"), (("show a", right),), "show a",
            right, [("show a", right)], ("show a", None), ("show a", "space"),
            ("show a", ("space", "q 3 2: 0 1; 0 0", ())),
            ("show a", [right]), {"show a": right}, (), ("show a", Reply), ("show b", right), ("show  b", right),
            ("show a ", Reply("space", "q 3 2: 0 1; 0 1")), (right, right), (None, right), (("show a",), right),
        ]
        for entry in wrong:
            self.assertIs(is_right(names, entry), False, entry)
        self.assertIs(is_right(names, ("  show  a ", right)), True)
        self.assertEqual(list(names), ["a"])

    def test_definitions_matter(self):
        for space in (hyperbolic("quadratic", 3, 1), zero_space("hermitian", 9, 2)):
            right = Reply("space", str(space))
            self.assertIs(is_right({"a": space}, ("show a", right)), True)
            self.assertIs(is_right({"b": space}, ("show a", right)), False)
            self.assertIs(is_right({}, ("show a", Reply("error", "refused name"))), True)
            self.assertIs(is_right({"a": space}, ("show a", Reply("error", "refused name"))), False)


if __name__ == "__main__":
    unittest.main()
