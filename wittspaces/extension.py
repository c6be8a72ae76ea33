"""Partial isometries, their extensions, and the barriers to these (points 6.1 to 6.4)."""

from wittspaces.build import are_rows, restricted
from wittspaces.errors import Malformed, Refused
from wittspaces.isometry import Isometry
from wittspaces.linear import (
    add, all_rows, combine, common_part, coordinates, holds, identity, matrix_inverse, rest, solve, span, times,
)


def _are_many_rows(space, us, vs):
    """True if both values are lists or tuples of rows of the space, as many in the one as in the other."""
    return are_rows(space, us) and are_rows(space, vs) and len(us) == len(vs)


def _are_independent(space, rows):
    """True if the rows are independent."""
    return len(span(space.field, rows, space.n)) == len(rows)


def _agree(space, us, vs):
    """True if independent rows have the same values and products as those at their places."""
    return restricted(space, us) == restricted(space, vs)


def is_partial(space, us, vs):
    """True if the values are lists or tuples of rows that make up a partial isometry."""
    if not _are_many_rows(space, us, vs):
        return False
    return _are_independent(space, us) and _are_independent(space, vs) and _agree(space, us, vs)


def _check(space, us, vs):
    """Raises the error that tells why the values make up no partial isometry."""
    if not _are_many_rows(space, us, vs):
        raise Malformed("no rows of the space, or unlike numbers of them")
    if not _are_independent(space, us) or not _are_independent(space, vs):
        raise Refused("dependent")
    if not _agree(space, us, vs):
        raise Refused("partial")


def common_with_radical(space, rows):
    """The space of the rows that are in the radical and in the span of the rows."""
    return common_part(space.field, span(space.field, rows, space.n), space.radical(), space.n)


def _weights_of_barrier(space, us, vs):
    """The numbers that `barrier` returns, for a partial isometry."""
    field = space.field
    radical = space.radical()
    for rows, others in ((us, vs), (vs, us)):
        for row in common_with_radical(space, rows):
            weights = coordinates(field, rows, row)
            if not holds(field, radical, combine(field, others, weights, space.n)):
                return weights
    return None


def barrier(space, us, vs):
    """None if there is an extension, otherwise multiples of the rows that show that there is none."""
    _check(space, us, vs)
    return _weights_of_barrier(space, us, vs)


def extends(space, us, vs):
    """True if the partial isometry has an extension."""
    return barrier(space, us, vs) is None


def _over_radical(space, us, vs):
    """A partial isometry without a barrier, gone on to one from and to spaces that contain the radical."""
    field = space.field
    zeros = space.singular_radical()
    for u in zeros:
        if not holds(field, span(field, us, space.n), u):
            # Both spaces have as many rows of `S`, so some row of it is left for the image.
            reached = span(field, vs, space.n)
            vs = (*vs, [row for row in zeros if not holds(field, reached, row)][0])
            us = (*us, u)
    for z in space.radical():
        if not holds(field, span(field, us, space.n), z):
            us = (*us, z)
            vs = (*vs, z)
    return us, vs


def _products_with(space, row):
    """The row of the products of the unit rows with the row."""
    return tuple(space.product(unit, row) for unit in identity(space.n))


def _image_beside(space, us, vs, x):
    """A row outside the span of the `vs` that goes with `x` as the `vs` go with the `us`."""
    field = space.field
    width = space.n
    reached = span(field, vs, width)
    worth = space.value(x)
    start = solve(field, [_products_with(space, v) for v in vs], width, [space.product(x, u) for u in us])
    # Rows of `S` change no value and lie in the span of the `vs`, so steps that differ by these need not be tried.
    zeros = space.singular_radical()
    steps = span(field, [rest(field, zeros, row) for row in space.perp(vs)], width)
    for step in all_rows(field, steps, width):
        y = add(field, start, step)
        if space.value(y) == worth and not holds(field, reached, y):
            return y
    return None


def extension(space, us, vs):
    """An isometry that extends the partial isometry, or None if there is none."""
    if not extends(space, us, vs):
        return None
    us, vs = _over_radical(space, us, vs)
    for x in identity(space.n):
        if not holds(space.field, span(space.field, us, space.n), x):
            # By point 6.2 the map extends to all rows, so there is an image for this row, too.
            vs = (*vs, _image_beside(space, us, vs, x))
            us = (*us, x)
    return Isometry(space, times(space.field, matrix_inverse(space.field, us), vs, space.n))
