"""The lines of worksheets, and reading them (points 11.1 and 11.2)."""

from wittspaces.errors import NoText
from wittspaces.space import read_space

MOST_SIGNS = 2000

MOST_LETTERS = 8

LETTERS = "abcdefghijklmnopqrstuvwxyz"

NUMBERS = "012345678"


def _is_line(value):
    """True if the value is a string of signs from the space to `~`, not too long."""
    return isinstance(value, str) and len(value) <= MOST_SIGNS and all([" " <= sign <= "~" for sign in value])


def _read_name(word):
    """The name that a token is."""
    if len(word) > MOST_LETTERS or not all([letter in LETTERS for letter in word]):
        raise NoText(0)
    return word


def _read_digits(word):
    """The tuple of the numbers that the signs of a text are."""
    if not all([sign in NUMBERS for sign in word]):
        raise NoText(0)
    return tuple(int(sign) for sign in word)


def _read_number(word):
    """The number that a token is."""
    if len(word) != 1:
        raise NoText(0)
    return _read_digits(word)[0]


def _read_row(word):
    """The row that a text is."""
    if word == "-":
        return ()
    if word == "":
        raise NoText(0)
    return _read_digits(word)


def _read_rows(word):
    """The tuple of the rows that a token is."""
    if word == ".":
        return ()
    return tuple(_read_row(part) for part in word.split(","))


READERS = {"name": _read_name, "number": _read_number, "row": _read_row, "rows": _read_rows}

# What stands behind the first token.
FORMS = {
    "sum": ("name", "name", "name"), "times": ("name", "name", "number"), "normal": ("name", "name"),
    "show": ("name",), "values": ("name",), "invariants": ("name",), "order": ("name",),
    "value": ("name", "row"), "product": ("name", "row", "row"), "isometric": ("name", "name"),
    "extends": ("name", "rows", "rows"), "index": ("name",), "sign": ("name",), "factors": ("name", "rows"),
}


def _read_definition(line, words):
    """The command of a line that begins with the token `let`."""
    if len(words) < 3 or words[2] != "=":
        raise NoText(0)
    _, _, text = line.partition("=")
    return "let", _read_name(words[1]), read_space(text.strip(" "))


def _read_word(reading, word):
    """What a token is, read as the form asks for."""
    reader = READERS[reading]
    return reader(word)


def read_line(line):
    """The command of a line, a tuple; NoText(0) for every value that is none."""
    if not _is_line(line):
        raise NoText(0)
    words = line.split()
    if len(words) == 0 or line[0] == "#":
        return ("empty",)
    if words[0] == "let":
        return _read_definition(line, words)
    if words[0] not in FORMS:
        raise NoText(0)
    form = FORMS[words[0]]
    if len(words) != len(form) + 1:
        raise NoText(0)
    return (words[0], *[_read_word(reading, word) for reading, word in zip(form, words[1:])])
