"""The two families of greatest totally singular subspaces (points 8.5 and 8.6)."""

from wittspaces.clifford import Clifford
from wittspaces.errors import Malformed, Refused
from wittspaces.linear import combine, common_part, is_space, span
from wittspaces.normal import sign
from wittspaces.pairing import is_pairing
from wittspaces.polar import points, residue, singular_subspaces


def _check_space(space):
    """Raises Refused if the space has no families."""
    if space.kind != "quadratic":
        raise Refused("kind")
    if space.radical():
        raise Refused("radical")
    if space.n % 2 == 1:
        raise Refused("even")
    if sign(space) == -1:
        raise Refused("sign")


def _check_table(space, value, k):
    """Raises Malformed if the value is not the reduced table of a singular subspace of the dimension `k`."""
    if not is_space(space.field, value, space.n) or len(value) != k or not space.is_singular(value):
        raise Malformed("no singular subspace of the dimension that is asked for")


def _are_of_one_family(space, one, two):
    """True if two greatest singular subspaces are of one family."""
    common = common_part(space.field, one, two, space.n)
    return (space.n // 2 - len(common)) % 2 == 0


def same_family(space, one, two):
    """True if two greatest totally singular subspaces are of one family."""
    _check_space(space)
    _check_table(space, one, space.n // 2)
    _check_table(space, two, space.n // 2)
    return _are_of_one_family(space, one, two)


def families(space):
    """The pair of the ascending tuples of the reduced tables of both families, first that with the least table."""
    _check_space(space)
    tables = singular_subspaces(space, space.n // 2)
    least = tables[0]
    first = tuple(table for table in tables if _are_of_one_family(space, least, table))
    second = tuple(table for table in tables if not _are_of_one_family(space, least, table))
    return first, second


def two_above(space, table):
    """The ascending pair of the two greatest singular subspaces above one of one dimension less."""
    _check_space(space)
    if space.n == 0:
        raise Refused("zero")
    _check_table(space, table, space.n // 2 - 1)
    rows, plane = residue(space, table)
    more = [combine(space.field, rows, weights, space.n) for weights in points(plane)]
    return tuple(sorted([span(space.field, (*table, row), space.n) for row in more]))


def _belongs_to_pairing(algebra, z):
    """True if the value is an element that belongs to a pairing."""
    if not algebra.is_element(z):
        return False
    # `d` is a number with `z z = z - d`, so no other one than this can do.
    d = algebra.add(z, algebra.negative(algebra.multiply(z, z)))[0]
    return is_pairing(algebra.space, z, d)


def family_root(space, table, z):
    """The number by which the element `z` of a pairing multiplies the product of the rows of the table."""
    _check_space(space)
    _check_table(space, table, space.n // 2)
    algebra = Clifford(space)
    if not _belongs_to_pairing(algebra, z):
        raise Refused("pairing")
    product = algebra.product_of(table)
    place = [at for at, c in enumerate(product) if c != 0][0]
    return space.field.multiply(algebra.multiply(z, product)[place], space.field.inverse(product[place]))
