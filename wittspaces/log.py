"""The written forms of plain data and of entries, and the first wrong entry (points 11.5 and 11.6)."""

from wittspaces.errors import Malformed, NoText
from wittspaces.replies import Reply, defined, is_right
from wittspaces.sheet import LETTERS
from wittspaces.space import DIGITS
from wittspaces.whole import is_integer

MOST_NUMBER = 9999

MOST_LETTERS = 12

MOST_NESTED = 20

LINES_OF_ENTRY = 3


def _is_label(value):
    """True if the value is a string of 1 to 12 small letters."""
    return isinstance(value, str) and 1 <= len(value) <= MOST_LETTERS and all([sign in LETTERS for sign in value])


def _written(data, depth):
    """The written form of plain data whose tuples are nested at most `depth` deep."""
    if _is_label(data):
        return data
    if is_integer(data) and -MOST_NUMBER <= data <= MOST_NUMBER:
        return str(data)
    if not isinstance(data, tuple) or depth == 0:
        raise Malformed("no plain data")
    body = " ".join([_written(item, depth - 1) for item in data])
    return f"({body})"


def write_data(data):
    """The written form of plain data; Malformed for every other value."""
    return _written(data, MOST_NESTED)


def _item_of(word):
    """The integer or the label that a word is, if it is one; what it is else shows when it is written again."""
    digits = word[1:] if word[0] == "-" else word
    if 1 <= len(digits) <= len(str(MOST_NUMBER)) and all([sign in DIGITS for sign in digits]):
        return int(word)
    return word


def _items_of(text):
    """The list of the plain data that stand one after the other in a text, read as if all its lists were closed."""
    found = []
    open_lists = []
    for word in text.replace("(", " ( ").replace(")", " ) ").split(" "):
        if word == "(":
            open_lists.append(found)
            found = []
        elif word == ")":
            if not open_lists:
                raise NoText(0)
            inner = tuple(found)
            found = open_lists.pop()
            found.append(inner)
        elif word != "":
            found.append(_item_of(word))
    return found


def read_data(text):
    """The plain data with this written form; NoText(0) if there are none."""
    if not isinstance(text, str):
        raise NoText(0)
    found = _items_of(text)
    if len(found) != 1:
        raise NoText(0)
    try:
        again = write_data(found[0])
    except Malformed:
        raise NoText(0) from None
    # The text was read loosely; only the text that the data themselves have is their written form.
    if again != text:
        raise NoText(0)
    return found[0]


def _is_text(value):
    """True if the value is a string without a line feed."""
    return isinstance(value, str) and "\n" not in value


def _check_entry(entry):
    """Raises Malformed if the value is no entry that has a written form, apart from its data."""
    if not isinstance(entry, tuple) or len(entry) != 2:
        raise Malformed("no pair")
    line, reply = entry
    if not _is_text(line) or not isinstance(reply, Reply):
        raise Malformed("no line with a reply")
    if not _is_label(reply.kind) or not _is_text(reply.text) or not isinstance(reply.data, tuple):
        raise Malformed("no reply that can be written")


def _written_entry(entry):
    """The three lines of an entry."""
    _check_entry(entry)
    line, reply = entry
    return f"> {line}\n= {reply.kind} {reply.text}\n# {write_data(reply.data)}\n"


def write_log(entries):
    """The written form of a list of entries."""
    return "".join([_written_entry(entry) for entry in entries])


def _behind(line, sign):
    """What stands behind the sign and the space at the beginning of a line."""
    if not line.startswith(sign + " "):
        raise NoText(0)
    return line[2:]


def _read_head(line):
    """The pair of the kind and the text in the second line of an entry."""
    kind, gap, text = _behind(line, "=").partition(" ")
    if not _is_label(kind) or gap == "":
        raise NoText(0)
    return kind, text


def _read_part(line, place):
    """What the line at a place of an entry, from 0 to 2, tells; NoText(0) if it has not the form of its place."""
    if place == 0:
        return _behind(line, ">")
    if place == 1:
        return _read_head(line)
    data = read_data(_behind(line, "#"))
    if not isinstance(data, tuple):
        raise NoText(0)
    return data


def _read_parts(lines):
    """The list of what the lines of entries tell."""
    found = []
    for at, line in enumerate(lines):
        try:
            found.append(_read_part(line, at % LINES_OF_ENTRY))
        except NoText:
            raise NoText(at) from None
    return found


def read_log(text):
    """The list of the entries with this written form."""
    if not isinstance(text, str):
        raise NoText(0)
    lines = text.split("\n")
    last = lines.pop()
    parts = _read_parts(lines)
    if last != "" or len(parts) % LINES_OF_ENTRY != 0:
        raise NoText(len(parts))
    places = range(0, len(parts), LINES_OF_ENTRY)
    return [(parts[at], Reply(parts[at + 1][0], parts[at + 1][1], parts[at + 2])) for at in places]


def first_wrong(entries):
    """The index of the first item that is no right entry, beginning without definitions, or -1."""
    names = {}
    for at, entry in enumerate(entries):
        if not is_right(names, entry):
            return at
        found = defined(names, entry[0])
        if found is not None:
            names[found[0]] = found[1]
    return -1
