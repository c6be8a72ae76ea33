"""The number of isometries of a space, and all of them (point 5.4)."""

from wittspaces.errors import Refused
from wittspaces.linear import identity, span
from wittspaces.normal import invariants, sign
from wittspaces.polar import MOST_LISTED, check_walk
from wittspaces.whole import invertible_count, power


def _even_steps(q, m):
    """The product of the `q^(2 i) - 1` for `i` from 1 to `m`."""
    result = 1
    for i in range(1, m + 1):
        result = result * (power(q, 2 * i) - 1)
    return result


def _hermitian_order(p, k):
    """The number of isometries of a hermitian space of the rank `k` without a radical, `q = p p`."""
    result = power(p, k * (k - 1) // 2)
    for i in range(1, k + 1):
        result = result * (power(p, i) - (1 if i % 2 == 0 else -1))
    return result


def _quadratic_order(space, k, zero_radical):
    """The number for a complement, of the dimension `k`, of `S` in a quadratic space; is its radical 0?"""
    q = space.q
    m = k // 2
    if k % 2 == 1:
        return (2 if zero_radical else 1) * power(q, m * m) * _even_steps(q, m)
    if m == 0:
        return 1
    return 2 * power(q, m * (m - 1)) * (power(q, m) - sign(space)) * _even_steps(q, m - 1)


def group_order(space):
    """The number of isometries of the space."""
    n, r, s, _ = invariants(space)
    k = n - s
    if space.kind == "alternating":
        m = k // 2
        beside = power(space.q, m * m) * _even_steps(space.q, m)
    elif space.kind == "hermitian":
        beside = _hermitian_order(space.field.p, k)
    else:
        beside = _quadratic_order(space, k, r == s)
    return invertible_count(s, space.q) * power(space.q, s * k) * beside


def _choices_left(space, images, choices):
    """Of the choices for the images of the next unit rows those with the right product with the last image."""
    last = len(images) - 1
    image = images[last]
    left = []
    for i, rows in enumerate(choices, start=last + 1):
        wanted = space.product(space.unit(i), space.unit(last))
        left.append([row for row in rows if space.product(row, image) == wanted])
    return left


def _completed(space, images, choices):
    """The ascending list of the isometries whose matrices begin with the images and go on with the choices."""
    if not choices:
        return [images]
    found = []
    for row in choices[0]:
        rows = (*images, row)
        if len(span(space.field, rows, space.n)) == len(rows):
            found.extend(_completed(space, rows, _choices_left(space, rows, choices[1:])))
    return found


def isometries(space):
    """The ascending tuple of the matrices of all isometries."""
    check_walk(space)
    if group_order(space) > MOST_LISTED:
        raise Refused("many")
    rows = space.rows()
    choices = [[row for row in rows if space.value(row) == space.value(unit)] for unit in identity(space.n)]
    return tuple(_completed(space, (), choices))
