"""Replies to lines, and right entries (points 11.2, 11.3 and 11.5)."""

from wittspaces.build import direct_sum, scaled
from wittspaces.checker import takes_extension, takes_factors, takes_index, takes_isometry, takes_sign
from wittspaces.counts import value_counts
from wittspaces.errors import Fault, Malformed, NoText, Refused
from wittspaces.groups import group_order
from wittspaces.isometry import Isometry
from wittspaces.normal import invariants, normal_form
from wittspaces.papers import extension_paper, factors_paper, index_paper, isometry_paper, sign_paper
from wittspaces.sheet import read_line

DEFINING = ("let", "sum", "times", "normal")

WITH_SPACE = ("let", "sum", "times", "normal", "show")

WITH_NUMBERS = ("values", "invariants")

WITH_NUMBER = ("order", "value", "product")

WITH_PAPER = ("isometric", "extends", "index", "sign", "factors")


class Reply:
    """A reply to a line: its kind, its text and its data."""

    def __init__(self, kind, text="", data=()):
        self.kind = kind
        self.text = text
        self.data = data

    def __eq__(self, other):
        if not isinstance(other, Reply):
            return False
        return self.kind == other.kind and self.text == other.text and self.data == other.data


def _rows_in(command):
    """The tuple of all rows in a command."""
    if command[0] in ("value", "product"):
        return command[2:]
    if command[0] in ("extends", "factors"):
        return tuple(row for rows in command[2:] for row in rows)
    return ()


def _arguments(names, command):
    """The tuple of what a command is told, with the spaces in place of their names."""
    words = command[2:] if command[0] in DEFINING else command[1:]
    if not all([word in names for word in words if isinstance(word, str)]):
        raise Refused("name")
    found = tuple(names[word] if isinstance(word, str) else word for word in words)
    if not all([found[0].is_row(row) for row in _rows_in(command)]):
        raise Refused("row")
    return found


def _space_of(word, arguments):
    """The space that a line defines or shows."""
    if word == "sum":
        return direct_sum(*arguments)
    if word == "times":
        return scaled(*arguments)
    if word == "normal":
        return normal_form(*arguments)[0]
    return arguments[0]


def _numbers_of(word, arguments):
    """The tuple of the numbers that a line asks for."""
    if word == "values":
        return value_counts(*arguments)
    return invariants(*arguments)


def _number_of(word, arguments):
    """The number that a line asks for."""
    space = arguments[0]
    if word == "order":
        return group_order(space)
    if word == "value":
        return space.value(arguments[1])
    return space.product(arguments[1], arguments[2])


def _paper_of(word, arguments):
    """The paper that a line asks for."""
    if word == "isometric":
        return isometry_paper(*arguments)
    if word == "extends":
        return extension_paper(*arguments)
    if word == "index":
        return index_paper(*arguments)
    if word == "sign":
        return sign_paper(*arguments)
    return factors_paper(Isometry(*arguments))


def _is_taken(word, arguments, paper):
    """True if the checker accepts the paper for what a line asks for."""
    if word == "isometric":
        return takes_isometry(*arguments, paper)
    if word == "extends":
        return takes_extension(*arguments, paper)
    if word == "index":
        return takes_index(*arguments, paper)
    if word == "sign":
        return takes_sign(*arguments, paper)
    return takes_factors(Isometry(*arguments), paper)


def _text_of(word, paper):
    """The text that belongs to a paper that the checker accepts."""
    if word in ("isometric", "extends"):
        return "yes" if paper[0] in ("isometry", "extension") else "no"
    if word == "sign":
        return str(paper[1])
    return str(len(paper[1]))


def _carried_out(names, command):
    """The reply to a command, or the error that it raises."""
    word = command[0]
    arguments = _arguments(names, command)
    if word == "empty":
        return Reply("done")
    if word in WITH_SPACE:
        return Reply("space", str(_space_of(word, arguments)))
    if word in WITH_NUMBERS:
        return Reply("numbers", " ".join([str(c) for c in _numbers_of(word, arguments)]))
    if word in WITH_NUMBER:
        return Reply("number", str(_number_of(word, arguments)))
    paper = _paper_of(word, arguments)
    return Reply(word, _text_of(word, paper), paper)


def reply_to(names, line):
    """The reply to a line, with a dict from names to spaces."""
    try:
        return _carried_out(names, read_line(line))
    except NoText:
        return Reply("error", "text")
    except Malformed:
        return Reply("error", "malformed")
    except Refused as fault:
        return Reply("error", "refused " + fault.reason)


def defined(names, line):
    """The pair of the name and the space that a line defines, or None."""
    try:
        command = read_line(line)
        if command[0] not in DEFINING:
            return None
        return command[1], _space_of(command[0], _arguments(names, command))
    except Fault:
        return None


def _is_shown(names, line, reply):
    """True if the checker accepts the data of a reply to a line, and the text belongs to them."""
    command = read_line(line)
    word = command[0]
    if not _is_taken(word, _arguments(names, command), reply.data):
        return False
    return reply.text == _text_of(word, reply.data)


def is_right(names, entry):
    """True if the value is a right entry, a pair of a line and a reply, over the definitions."""
    if not isinstance(entry, tuple) or len(entry) != 2 or not isinstance(entry[1], Reply):
        return False
    line, reply = entry
    expected = reply_to(names, line)
    if expected.kind in WITH_PAPER:
        return reply.kind == expected.kind and _is_shown(names, line, reply)
    return reply == expected
