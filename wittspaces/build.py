"""Spaces made of others, or of a few numbers (point 2.5)."""

from wittspaces.errors import Malformed, Refused
from wittspaces.linear import complement_rows, span
from wittspaces.space import MOST_ROWS, Space, field_of, square_rows
from wittspaces.whole import is_integer


def matrix_of(n, items):
    """The matrix of the size `n` with the items of a dict from pairs of places, and 0 elsewhere."""
    return tuple(tuple(items.get((i, j), 0) for j in range(n)) for i in range(n))


def plane_items(kind, field, m):
    """The items of the matrix of `m` hyperbolic planes, a dict from pairs of places."""
    items = {}
    for i in range(m):
        items[2 * i, 2 * i + 1] = 1
        if kind == "alternating":
            items[2 * i + 1, 2 * i] = field.negative(1)
        if kind == "hermitian":
            items[2 * i + 1, 2 * i] = 1
    return items


def _check_count(value):
    """Raises Malformed if the value is no integer from 0 on."""
    if not is_integer(value) or value < 0:
        raise Malformed("no number of planes or rows")


def hyperbolic(kind, q, m):
    """The hyperbolic space of `m` planes."""
    field = field_of(kind, q)
    _check_count(m)
    if 2 * m > MOST_ROWS:
        raise Refused("large")
    return Space(kind, q, matrix_of(2 * m, plane_items(kind, field, m)))


def zero_space(kind, q, n):
    """The space of the dimension `n` in which all values and products are 0."""
    field_of(kind, q)
    _check_count(n)
    if n > MOST_ROWS:
        raise Refused("large")
    return Space(kind, q, matrix_of(n, {}))


def of_matrix(q, matrix):
    """The quadratic space with the values that are the sums of all `B_ij x_i x_j`."""
    field = field_of("quadratic", q)
    rows = square_rows(field, matrix)
    n = len(rows)
    items = {(i, j): field.add(rows[i][j], rows[j][i]) for i in range(n) for j in range(i + 1, n)}
    for i in range(n):
        items[i, i] = rows[i][i]
    return Space("quadratic", q, matrix_of(n, items))


def direct_sum(a, b):
    """The direct sum of two spaces of one kind and one field."""
    if a.kind != b.kind or a.q != b.q:
        raise Malformed("unlike kinds or fields")
    first = tuple((*row, *b.zero()) for row in a.matrix)
    second = tuple((*a.zero(), *row) for row in b.matrix)
    return Space(a.kind, a.q, first + second)


def scaled(space, c):
    """The space with all values and products times `c`."""
    field = space.field
    if not field.is_number(c) or (space.kind == "hermitian" and not field.is_fixed(c)):
        raise Malformed("no number for the multiple of a space")
    return Space(space.kind, space.q, tuple(tuple(field.multiply(c, a) for a in row) for row in space.matrix))


def are_rows(space, rows):
    """True if the value is a list or tuple of rows of the space."""
    return isinstance(rows, (list, tuple)) and all([space.is_row(row) for row in rows])


def _item(space, rows, i, j):
    """The item at `i, j` of the matrix of the space restricted to the rows."""
    if space.kind != "quadratic":
        return space.product(rows[i], rows[j])
    if i == j:
        return space.value(rows[i])
    return space.product(rows[i], rows[j]) if i < j else 0


def restricted(space, rows):
    """The space restricted to some rows, which need not be independent."""
    if not are_rows(space, rows):
        raise Malformed("no rows of the space")
    k = len(rows)
    if k > MOST_ROWS:
        raise Refused("large")
    items = {(i, j): _item(space, rows, i, j) for i in range(k) for j in range(k)}
    return Space(space.kind, space.q, matrix_of(k, items))


def changed(space, rows):
    """The same space in the basis of `n` independent rows."""
    if not are_rows(space, rows) or len(rows) != space.n or len(span(space.field, rows, space.n)) != space.n:
        raise Malformed("no basis of the space")
    return restricted(space, rows)


def complement(space):
    """The tuple of the unit rows at the places that are no pivots of the radical."""
    return complement_rows(space.radical(), space.n)


def core(space):
    """The space restricted to the complement of the radical."""
    return restricted(space, complement(space))
