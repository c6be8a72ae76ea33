"""Singular points and subspaces, joined points and residues (points 4.3 and 4.4)."""

from itertools import combinations

from wittspaces.build import restricted
from wittspaces.counts import singular_count
from wittspaces.errors import Malformed, Refused
from wittspaces.linear import add, all_rows, identity, is_space, rest, span
from wittspaces.whole import power

MOST_WALKED = 4096

MOST_LISTED = 2000


def check_walk(space):
    """Raises Refused if the space has more rows than are walked."""
    if power(space.q, space.n) > MOST_WALKED:
        raise Refused("large")


def points_of(space, table):
    """The ascending tuple of the rows of all points of a subspace."""
    field = space.field
    width = space.n
    found = []
    # The rows that begin with 1 at a later pivot are the lesser ones.
    for i in reversed(range(len(table))):
        head = table[i]
        tail = table[i + 1:]
        found.extend([add(field, head, row) for row in all_rows(field, tail, width)])
    return tuple(found)


def points(space):
    """The ascending tuple of the rows of all singular points."""
    check_walk(space)
    return tuple(row for row in points_of(space, identity(space.n)) if space.value(row) == 0)


def _are_orthogonal(space, row, table):
    """True if the row has the product 0 with all rows of the table."""
    return all([space.product(row, other) == 0 for other in table])


def _tables_with(space, rows, pivots):
    """The reduced tables of the singular subspaces with these pivots, made of the rows of singular points."""
    found = [()]
    for pivot in reversed(pivots):
        others = [place for place in pivots if place != pivot]
        heads = [row for row in rows if row.index(1) == pivot and not any([row[place] for place in others])]
        found = [(head, *table) for head in heads for table in found if _are_orthogonal(space, head, table)]
    return found


def singular_subspaces(space, k):
    """The ascending tuple of the reduced tables of all singular subspaces of the dimension `k`."""
    check_walk(space)
    count = singular_count(space, k)
    if count > MOST_LISTED:
        raise Refused("many")
    if count == 0:
        return ()
    rows = points(space)
    found = []
    for pivots in combinations(range(space.n), k):
        found.extend(_tables_with(space, rows, pivots))
    return tuple(sorted(found))


def joined(space, x):
    """The ascending tuple of the rows of the other singular points that are joined to that with the row `x`."""
    return tuple(y for y in points(space) if y != x and space.product(x, y) == 0)


def one_or_all(space, x, line):
    """The ascending tuple of the rows of the points of a line that are joined to the singular point of `x`."""
    return tuple(y for y in points_of(space, line) if space.product(x, y) == 0)


def residue(space, table):
    """The pair of the rows that tell the residue of a singular subspace, and the space restricted to them."""
    field = space.field
    if not is_space(field, table, space.n) or not space.is_singular(table):
        raise Malformed("no singular subspace")
    # The perp contains the subspace, so the rows made 0 at the pivots stay within it.
    rows = span(field, [rest(field, table, row) for row in space.perp(table)], space.n)
    return rows, restricted(space, rows)
