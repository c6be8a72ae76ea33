"""Pairings, the sign by a pairing, isometries that keep or swap, and the even centre (points 7.3 to 7.6)."""

from wittspaces.clifford import Clifford
from wittspaces.errors import Refused
from wittspaces.linear import add_multiple, identity, relations, span, times
from wittspaces.normal import orthogonal_basis, pairs_basis


def _checked_algebra(space):
    """The Clifford algebra of a space that has a pairing; for another space the error that is due."""
    if space.kind != "quadratic":
        raise Refused("kind")
    if space.n % 2 == 1:
        raise Refused("even")
    algebra = Clifford(space)
    if space.radical():
        raise Refused("radical")
    return algebra


def _plane(space, u, w):
    """The pair `x, y` of point 7.3 for two rows of an orthogonal basis, `q` odd."""
    field = space.field
    return u, add_multiple(field, w, field.inverse(space.product(u, u)), u)


def _planes(space):
    """Pairs `x, y` with the product 1 of a basis; all other products of two of its rows are 0."""
    if space.field.p == 2:
        return pairs_basis(space)[0]
    rows = orthogonal_basis(space)
    return tuple(_plane(space, rows[i], rows[i + 1]) for i in range(0, space.n, 2))


def _two(field):
    """The number 1 + 1."""
    return field.add(1, 1)


def _four(field):
    """The number 1 + 1 + 1 + 1."""
    return field.add(_two(field), _two(field))


def _joined(algebra, one, two):
    """The pairing of the sum of two parts with the pairings `one` and `two`."""
    field = algebra.space.field
    z, d = one
    u, e = two
    less_twice = algebra.scaled(algebra.multiply(z, u), field.negative(_two(field)))
    less_four_times = field.negative(field.multiply(_four(field), field.multiply(d, e)))
    return algebra.add(algebra.add(z, u), less_twice), field.add(field.add(d, e), less_four_times)


def pairing(space):
    """A pairing `(z, d)` of the space."""
    algebra = _checked_algebra(space)
    result = algebra.number(0), 0
    for x, y in _planes(space):
        plane = algebra.product_of((x, y)), space.field.multiply(space.value(x), space.value(y))
        result = _joined(algebra, result, plane)
    return result


def sign_by_pairing(space):
    """The sign, 1 or -1: is there a root of `T T - T + d`?"""
    d = pairing(space)[1]
    field = space.field
    found = [t for t in field.numbers() if field.add(field.subtract(field.multiply(t, t), t), d) == 0]
    return 1 if found else -1


def _other(algebra, z):
    """The element `1 - z`."""
    return algebra.add(algebra.number(1), algebra.negative(z))


def _turns_round(algebra, z):
    """True if `u z = (1 - z) u` for all unit rows `u`."""
    rows = [algebra.row(x) for x in identity(algebra.space.n)]
    other = _other(algebra, z)
    return all([algebra.multiply(u, z) == algebra.multiply(other, u) for u in rows])


def is_pairing(space, z, d):
    """True if `(z, d)` is a pairing of the quadratic space."""
    if space.n % 2 == 1 or space.radical():
        return False
    algebra = Clifford(space)
    field = space.field
    if not algebra.is_element(z) or not field.is_number(d) or not algebra.is_even(z):
        return False
    less = algebra.add(z, algebra.number(field.negative(d)))
    if algebra.multiply(z, z) != less or field.multiply(_four(field), d) == 1:
        return False
    return _turns_round(algebra, z)


def swaps(space, matrix):
    """0 if the isometry with this matrix keeps the `z` of a pairing, 1 if it swaps it with `1 - z`."""
    algebra = _checked_algebra(space)
    z = pairing(space)[0]
    return 0 if algebra.image(matrix, z) == z else 1


def _commutator(algebra, one, two):
    """The difference of the products of some rows, first `one` and then `two`, and the other way round."""
    return algebra.add(algebra.product_of((*one, *two)), algebra.negative(algebra.product_of((*two, *one))))


def even_centre(space):
    """The reduced table of the even elements that commute with all even elements."""
    algebra = Clifford(space)
    size = algebra.size
    units = identity(space.n)
    chains = [tuple(x for i, x in enumerate(units) if index >> i & 1 == 1) for index in range(size)]
    even = [rows for rows in chains if len(rows) % 2 == 0]
    # All even elements are sums of products of these pairs.
    pairs = [rows for rows in chains if len(rows) == 2]
    differences = [tuple(c for pair in pairs for c in _commutator(algebra, rows, pair)) for rows in even]
    weights = relations(space.field, differences, len(pairs) * size)
    members = [algebra.product_of(rows) for rows in even]
    return span(space.field, times(space.field, weights, members, size), size)
