"""Products of reflections and of transvections, the Dickson invariant and the spinor norm (points 8.1 to 8.4)."""

from wittspaces.errors import Malformed, Refused
from wittspaces.isometry import Isometry
from wittspaces.kinds import reflection, transvection
from wittspaces.linear import add, add_multiple, identity
from wittspaces.normal import orthogonal_basis, pairs_basis


def _check_kind(space, kind):
    """Raises Refused if the space is of another kind."""
    if space.kind != kind:
        raise Refused("kind")


def _check_odd(space):
    """Raises Refused if the space is not quadratic or `q` is even."""
    _check_kind(space, "quadratic")
    if space.field.p == 2:
        raise Refused("two")


def _check_radical(space):
    """Raises Refused if the radical is not 0."""
    if space.radical():
        raise Refused("radical")


def _minus(field, v, w):
    """The difference of two rows."""
    return add_multiple(field, v, field.negative(1), w)


def product_of_reflections(space, rows):
    """The isometry that takes the reflections by the rows one after the other."""
    _check_kind(space, "quadratic")
    result = Isometry(space, identity(space.n))
    for u in rows:
        result = result.then(reflection(space, u))
    return result


def _transvection_of(space, item):
    """The transvection by a pair of a number and a row; Malformed if the item is none."""
    if not isinstance(item, tuple) or len(item) != 2:
        raise Malformed("no pair of a number and a row")
    c, u = item
    return transvection(space, u, c)


def product_of_transvections(space, pairs):
    """The isometry that takes the transvections by the pairs `(c, u)` one after the other."""
    _check_kind(space, "alternating")
    result = Isometry(space, identity(space.n))
    for item in pairs:
        result = result.then(_transvection_of(space, item))
    return result


def _reflections_to(space, x, y):
    """The rows of reflections that take `x` to `y`, both of one value other than 0."""
    if x == y:
        return ()
    apart = _minus(space.field, y, x)
    if space.value(apart) != 0:
        return (apart,)
    # The first one takes `x` to the negative of `y`.
    return add(space.field, y, x), y


def reflections_of(f):
    """A tuple of rows: `f` is the product of the reflections by them."""
    space = f.space
    _check_odd(space)
    _check_radical(space)
    found = ()
    left = f
    for x in orthogonal_basis(space):
        rows = _reflections_to(space, x, left(x))
        # What is left leaves this row and the earlier ones as they are, and is followed by these reflections.
        left = left.then(product_of_reflections(space, rows[::-1]))
        found = rows + found
    return found


def _step(space, x, y):
    """The pair of the transvection that takes `x` to `y`, two rows whose product is not 0."""
    return space.field.inverse(space.product(x, y)), _minus(space.field, y, x)


def _steps_to(space, x, y, over):
    """The pairs of transvections that take `x` to `y`, by way of one of the rows `over` if need be."""
    if x == y:
        return ()
    if space.product(x, y) != 0:
        return (_step(space, x, y),)
    z = [row for row in over if space.product(x, row) != 0 and space.product(row, y) != 0][0]
    return _step(space, x, z), _step(space, z, y)


def _with_sums(field, rows):
    """The rows and the sums of two of them: one of these has with any two rows of their span products other than 0."""
    return rows + [add(field, one, two) for i, one in enumerate(rows) for two in rows[:i]]


def _undone(f, pairs):
    """`f` and then the inverse of the product of the transvections."""
    field = f.space.field
    back = tuple((field.negative(c), u) for c, u in pairs[::-1])
    return f.then(product_of_transvections(f.space, back))


def transvections_of(f):
    """A tuple of pairs `(c, u)`: `f` is the product of the transvections by `u` and `c`."""
    space = f.space
    _check_kind(space, "alternating")
    _check_radical(space)
    found = ()
    left = f
    planes = pairs_basis(space)[0]
    for i, (e, partner) in enumerate(planes):
        beside = [row for plane in planes[i:] for row in plane]
        first = _steps_to(space, e, left(e), _with_sums(space.field, beside))
        left = _undone(left, first)
        # These leave `e` as it is, and so does what is left.
        second = _steps_to(space, partner, left(partner), [add(space.field, partner, e)])
        left = _undone(left, second)
        found = second + first + found
    return found


def dickson(f):
    """The Dickson invariant, 0 or 1."""
    _check_kind(f.space, "quadratic")
    _check_radical(f.space)
    return len(f.residual()) % 2


def spinor_norm(f):
    """The spinor norm, 1 or -1."""
    field = f.space.field
    total = 1
    for u in reflections_of(f):
        total = field.multiply(total, f.space.value(u))
    return 1 if field.is_square(total) else -1
