"""Trace spaces, polar spaces, and the quadratic forms with one product (points 9.4 and 9.5)."""

from wittspaces.build import matrix_of, restricted
from wittspaces.errors import Malformed, Refused
from wittspaces.linear import identity, moved, scaled, solve
from wittspaces.polar import MOST_LISTED
from wittspaces.space import MOST_ROWS, Space
from wittspaces.whole import power


def _check_trace(space):
    """Raises Refused if the space has no trace space."""
    if space.kind != "hermitian":
        raise Refused("kind")
    if 2 * space.n > MOST_ROWS:
        raise Refused("large")


def _pairs_of(space, x):
    """The row of the pairs of the items of the row `x`."""
    p = space.field.p
    return tuple(part for c in x for part in (c % p, c // p))


def _basis_over_fixed(space):
    """The rows of the space that stand for the unit rows of the trace space."""
    # The number `p` stands for the pair (0, 1).
    return [scaled(space.field, unit, c) for unit in identity(space.n) for c in (1, space.field.p)]


def trace_space(space):
    """The quadratic space with the values of a hermitian space, over its fixed numbers."""
    _check_trace(space)
    gram = restricted(space, _basis_over_fixed(space)).matrix
    size = len(gram)
    items = {(i, j): space.field.trace(gram[i][j]) for i in range(size) for j in range(i + 1, size)}
    for i in range(size):
        items[i, i] = gram[i][i]
    return Space("quadratic", space.field.p, matrix_of(size, items))


def trace_row(space, x):
    """The row of the trace space for a row of a hermitian space."""
    _check_trace(space)
    return _pairs_of(space, x)


def trace_matrix(space, matrix):
    """The matrix that moves the rows of the trace space as `matrix` does those of a hermitian space."""
    _check_trace(space)
    return tuple(_pairs_of(space, moved(space.field, x, matrix, space.n)) for x in _basis_over_fixed(space))


def _check_even(space, kind):
    """Raises Refused if the space is not of the kind, or `q` is odd."""
    if space.kind != kind:
        raise Refused("kind")
    if space.field.p != 2:
        raise Refused("odd")


def polar_space(space):
    """The alternating space with the product of a quadratic space, `q` even."""
    _check_even(space, "quadratic")
    return Space("alternating", space.q, space.gram())


def _with_diagonal(space, diagonal):
    """The quadratic space, `q` even, with the products of the space and the values `diagonal` of the unit rows."""
    n = space.n
    items = {(i, j): space.gram()[i][j] for i in range(n) for j in range(i + 1, n)}
    for i, c in enumerate(diagonal):
        items[i, i] = c
    return Space("quadratic", space.q, matrix_of(n, items))


def quadratics(space):
    """The tuple of the quadratic spaces with an alternating space as polar space, ascending by their diagonals."""
    _check_even(space, "alternating")
    if power(space.q, space.n) > MOST_LISTED:
        raise Refused("many")
    return tuple(_with_diagonal(space, row) for row in space.rows())


def _diagonal(space):
    """The tuple of the values of the unit rows of a quadratic space."""
    return tuple(space.matrix[i][i] for i in range(space.n))


def shifted(space, a):
    """The quadratic space, `q` even, with the values `Q(x) + b(a, x)^2`."""
    _check_even(space, "quadratic")
    field = space.field
    products = [space.product(a, unit) for unit in identity(space.n)]
    diagonal = [field.add(c, field.multiply(b, b)) for c, b in zip(_diagonal(space), products)]
    return _with_diagonal(space, diagonal)


def shift_between(one, two):
    """The row by which `one` is shifted to `two`, both with one polar space of the radical 0."""
    if not polar_space(one) == polar_space(two):
        raise Malformed("unlike polar spaces")
    if one.radical():
        raise Refused("radical")
    field = one.field
    # The root of the difference of both forms is linear, so its values at the unit rows tell the row.
    roots = [field.root(field.add(c, d)) for c, d in zip(_diagonal(one), _diagonal(two))]
    return solve(field, one.gram(), one.n, roots)


def sign_counts(space):
    """The pair of the numbers of the quadratic forms of the sign 1 and of the sign -1 with one product."""
    _check_even(space, "alternating")
    if space.radical():
        raise Refused("radical")
    whole = power(space.q, space.n)
    root = power(space.q, space.n // 2)
    return (whole + root) // 2, (whole - root) // 2
