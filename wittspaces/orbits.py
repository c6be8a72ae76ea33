"""Orbits of rows, and spaces that isometries carry onto each other (points 6.5 and 6.6)."""

from wittspaces.build import complement, restricted
from wittspaces.extension import common_with_radical, extension
from wittspaces.linear import add_multiple, holds, rest, scaled, span, times
from wittspaces.normal import invariants, normal_form
from wittspaces.polar import check_walk


def _mark(space, radical, x):
    """What tells the orbit of the row `x`: is it 0, its value, is it in the radical?"""
    return not any(x), space.value(x), holds(space.field, radical, x)


def same_orbit(space, x, y):
    """True if an isometry takes the row `x` to the row `y`."""
    radical = space.radical()
    return _mark(space, radical, x) == _mark(space, radical, y)


def carrier(space, x, y):
    """An isometry that takes the row `x` to the row `y`, or None if there is none."""
    if not same_orbit(space, x, y):
        return None
    if not any(x):
        return extension(space, (), ())
    return extension(space, (x,), (y,))


def orbit(space, x):
    """The ascending tuple of the rows to which isometries take the row `x`."""
    check_walk(space)
    radical = space.radical()
    mark = _mark(space, radical, x)
    return tuple(y for y in space.rows() if _mark(space, radical, y) == mark)


def orbit_count(space):
    """The number of orbits of rows."""
    check_walk(space)
    radical = space.radical()
    return len({_mark(space, radical, x) for x in space.rows()})


def _zeros_of(space, table):
    """The singular radical of a subspace, as some rows that span it."""
    return times(space.field, restricted(space, table).singular_radical(), table, space.n)


def _row_of_value_one(space, first, second):
    """The tuple of one row of value 1 of `first`, or else of `second`, both of the radical of a subspace, if any."""
    field = space.field
    found = [row for row in (*first, *second) if space.value(row) != 0]
    return tuple(scaled(field, row, field.inverse(field.root(space.value(row)))) for row in found[:1])


def _fitting_basis(space, table):
    """A basis of a subspace that corresponds to those of all subspaces that isometries carry it onto."""
    field = space.field
    part = restricted(space, table)
    beside = times(field, complement(part), table, space.n)
    core_rows = times(field, normal_form(restricted(space, beside))[1], beside, space.n)
    common = common_with_radical(space, table)
    tops = _row_of_value_one(space, common, times(field, part.radical(), table, space.n))
    for z in tops:
        # Otherwise the values would tell the complement, which is not the same for all.
        core_rows = tuple(add_multiple(field, x, field.root(space.value(x)), z) for x in core_rows)
    zeros = span(field, _zeros_of(space, common), space.n)
    more = span(field, [rest(field, zeros, row) for row in _zeros_of(space, table)], space.n)
    return (*core_rows, *tops, *zeros, *more)


def _subspace_marks(space, table):
    """What tells the subspaces onto which isometries carry a subspace."""
    common = common_with_radical(space, table)
    return invariants(restricted(space, table)), len(common), len(_zeros_of(space, common))


def carried(space, a, b):
    """An isometry that carries the subspace `a` onto `b`, or None if there is none."""
    if _subspace_marks(space, a) != _subspace_marks(space, b):
        return None
    return extension(space, _fitting_basis(space, a), _fitting_basis(space, b))
