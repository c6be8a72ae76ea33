"""Isometric spaces, Witt bases and the Witt index (points 3.3, 3.5 and 3.6)."""

from wittspaces.build import complement, restricted
from wittspaces.linear import add_multiple, all_rows, common_part, matrix_inverse, scaled, span, times
from wittspaces.normal import invariants, normal_form, sign


def isometric(a, b):
    """True if the spaces are isometric."""
    return a.kind == b.kind and a.q == b.q and invariants(a) == invariants(b)


def find_isometry(a, b):
    """A matrix that carries the values and products of `a` to those of `b`, or None if there is none."""
    if not isometric(a, b):
        return None
    # Both bases stand for the unit rows of one normal space.
    first = normal_form(a)[1]
    second = normal_form(b)[1]
    return times(a.field, matrix_inverse(a.field, first), second, a.n)


def _zero_row(space, table):
    """A row other than 0 with the value 0 of the span of the table, or None."""
    for x in all_rows(space.field, table, space.n):
        if any(x) and space.value(x) == 0:
            return x
    return None


def _hyperbolic_partner(space, table, x):
    """A row of the table's span that is with `x` a hyperbolic pair, for `x` of the value 0 outside the radical."""
    field = space.field
    multiples = [scaled(field, row, c) for row in table for c in field.numbers()]
    y = [row for row in multiples if space.product(x, row) == 1][0]
    # Less a multiple of `x`, the row keeps the product with `x`, and some such row has the value 0.
    found = [add_multiple(field, y, c, x) for c in field.numbers()]
    return [row for row in found if space.value(row) == 0][0]


def _beside_zeros(space):
    """A reduced table of a space that has 0 alone in common with `S` and spans all rows together with it."""
    tops = [row for row in space.radical() if space.value(row) != 0]
    return span(space.field, (*complement(space), *tops[:1]), space.n)


def witt_basis(space):
    """The tuple `(pairs, rest, zeros)`: hyperbolic pairs, further rows, and a basis of the singular radical."""
    left = _beside_zeros(space)
    pairs = []
    x = _zero_row(space, left)
    while x is not None:
        pair = (x, _hyperbolic_partner(space, left, x))
        pairs.append(pair)
        left = common_part(space.field, left, space.perp(pair), space.n)
        x = _zero_row(space, left)
    return tuple(pairs), left, space.singular_radical()


def witt_index(space):
    """The number of pairs of a Witt basis."""
    n, r, s, _ = invariants(space)
    half = (n - r) // 2
    if space.kind == "quadratic" and (n - r) % 2 == 0 and r == s and sign(space) == -1:
        return half - 1
    return half


def anisotropic_part(space):
    """The normal form of the space restricted to the rest of a Witt basis."""
    return normal_form(restricted(space, witt_basis(space)[1]))[0]


def greatest_singular(space):
    """The reduced table of a greatest totally singular subspace."""
    pairs, _, zeros = witt_basis(space)
    return span(space.field, (*[pair[0] for pair in pairs], *zeros), space.n)
