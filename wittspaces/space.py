"""Spaces with a form of one of three kinds, and their texts (points 2.1 to 2.4)."""

from wittspaces.errors import Fault, Malformed, NoText, Refused
from wittspaces.field import Field
from wittspaces.linear import add, all_rows, dot, identity, is_row, kernel, mirrored_rows, times, transposed, unit_row

MOST_ROWS = 6

KINDS = ("alternating", "quadratic", "hermitian")

DIGITS = "0123456789"


def field_of(kind, q):
    """The field of a space of this kind with `q` numbers; Malformed if there is no such space."""
    if kind not in KINDS:
        raise Malformed("no kind of a space")
    field = Field(q)
    if kind == "hermitian" and q == field.p:
        raise Malformed("no size of a field for a hermitian space")
    return field


def square_rows(field, matrix):
    """A list or tuple of `n` lists or tuples of `n` numbers as a tuple of tuples; Malformed for every other value."""
    if not isinstance(matrix, (list, tuple)):
        raise Malformed("no matrix")
    for row in matrix:
        if not isinstance(row, (list, tuple)) or not is_row(field, tuple(row), len(matrix)):
            raise Malformed("no row of a square matrix")
    return tuple(tuple(row) for row in matrix)


def _has_form(kind, field, rows):
    """True if a square matrix has the form that its kind asks for."""
    n = len(rows)
    below = [(i, j) for i in range(n) for j in range(i)]
    if kind == "quadratic":
        return all([rows[i][j] == 0 for i, j in below])
    if kind == "alternating":
        opposite = all([rows[i][j] == field.negative(rows[j][i]) for i, j in below])
        return opposite and all([rows[i][i] == 0 for i in range(n)])
    return mirrored_rows(field, rows) == transposed(rows, n)


def _gram_of(kind, field, rows):
    """The products of the unit rows of the space with the matrix `rows`."""
    if kind != "quadratic":
        return rows
    return tuple(add(field, row, column) for row, column in zip(rows, transposed(rows, len(rows))))


class Space:
    """All rows of the length `n` over `field`, with the form of the kind `kind` that `matrix` tells."""

    def __init__(self, kind, q, matrix):
        field = field_of(kind, q)
        rows = square_rows(field, matrix)
        if not _has_form(kind, field, rows):
            raise Malformed("no matrix of this kind")
        if len(rows) > MOST_ROWS:
            raise Refused("large")
        self.kind = kind
        self.q = q
        self.n = len(rows)
        self.matrix = rows
        self.field = field
        self._gram = _gram_of(kind, field, rows)

    def __eq__(self, other):
        if not isinstance(other, Space):
            return False
        return self.kind == other.kind and self.q == other.q and self.matrix == other.matrix

    def __str__(self):
        rows = [" ".join([str(c) for c in row]) for row in self.matrix]
        body = ";".join([" " + row for row in rows])
        return f"{self.kind[0]} {self.q} {self.n}:{body}"

    def is_row(self, value):
        """True if the value is a row of the space."""
        return is_row(self.field, value, self.n)

    def zero(self):
        """The row of zeros."""
        return (0,) * self.n

    def unit(self, i):
        """The unit row with 1 at `i`."""
        return unit_row(self.n, i)

    def rows(self):
        """The tuple of all rows, ascending."""
        whole = identity(self.n)
        return tuple(all_rows(self.field, whole, self.n))

    def value(self, x):
        """The value of a row."""
        if self.kind == "alternating":
            return 0
        if self.kind == "hermitian":
            return self.product(x, x)
        return dot(self.field, x, tuple(dot(self.field, row, x) for row in self.matrix))

    def product(self, x, y):
        """The product of two rows."""
        return dot(self.field, x, self._products_with(y))

    def _products_with(self, y):
        """The row of the products of the unit rows with the row `y`."""
        if self.kind == "hermitian":
            y = mirrored_rows(self.field, (y,))[0]
        return tuple(dot(self.field, row, y) for row in self._gram)

    def gram(self):
        """The Gram matrix: the products of the unit rows."""
        return self._gram

    def radical(self):
        """The reduced table of the rows whose products with all rows are 0."""
        return self.perp(identity(self.n))

    def singular_radical(self):
        """The reduced table of the rows of the radical with the value 0."""
        radical = self.radical()
        # In characteristic 2 the root of the value is linear on the radical; otherwise all values there are 0.
        roots = tuple(self.field.root(self.value(row)) for row in radical)
        weights = kernel(self.field, (roots,), len(radical))
        return times(self.field, weights, radical, self.n)

    def perp(self, rows):
        """The reduced table of the rows whose product with each of the rows is 0."""
        return kernel(self.field, [self._products_with(y) for y in rows], self.n)

    def is_singular(self, rows):
        """True if the rows are totally singular."""
        if any([self.value(x) != 0 for x in rows]):
            return False
        return all([self.product(x, y) == 0 for i, x in enumerate(rows) for y in rows[:i]])


def _digits_in(words):
    """The tuple of the digits; for a word that is no digit any number, or -1."""
    return tuple(DIGITS.find(word) for word in words)


def _read_rows(body):
    """The matrix behind the colon of a text, read as if it were one."""
    if body == "":
        return ()
    return tuple(_digits_in(row.split(" ")[1:]) for row in body.split(";"))


def read_space(text):
    """The space with this text; NoText(0) if there is none."""
    if not isinstance(text, str):
        raise NoText(0)
    head, _, body = text.partition(":")
    words = head.split(" ")
    kinds = [kind for kind in KINDS if kind[0] == words[0]]
    if len(kinds) == 0 or len(words) != 3:
        raise NoText(0)
    try:
        space = Space(kinds[0], _digits_in(words)[1], _read_rows(body))
    except Fault:
        raise NoText(0) from None
    # The text was read loosely; only the text that the space itself writes is its text.
    if str(space) != text:
        raise NoText(0)
    return space
