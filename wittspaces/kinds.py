"""Reflections, transvections, unitary maps and Siegel maps (point 5.3)."""

from wittspaces.errors import Malformed, Refused
from wittspaces.isometry import Isometry
from wittspaces.linear import add_multiple, identity


def _check(space, kind, rows, numbers):
    """Raises Refused if the space is of another kind, Malformed if one of the values is no row, or no number."""
    if space.kind != kind:
        raise Refused("kind")
    if not all([space.is_row(row) for row in rows]):
        raise Malformed("no row of the space")
    if not all([space.field.is_number(c) for c in numbers]):
        raise Malformed("no number of the field")


def _along(space, u, c):
    """The isometry that takes `x` to `x` plus `c b(x, u)` times `u`."""
    field = space.field
    images = [add_multiple(field, x, field.multiply(c, space.product(x, u)), u) for x in identity(space.n)]
    return Isometry(space, tuple(images))


def reflection(space, u):
    """The reflection by `u`, a row of a quadratic space with a value other than 0."""
    _check(space, "quadratic", (u,), ())
    worth = space.value(u)
    if worth == 0:
        raise Refused("isometry")
    return _along(space, u, space.field.negative(space.field.inverse(worth)))


def transvection(space, u, c):
    """The transvection by the row `u` and the number `c` in an alternating space."""
    _check(space, "alternating", (u,), (c,))
    return _along(space, u, c)


def _is_unitary(space, u, c):
    """True if `c + c' + c c' h(u, u)` is 0."""
    field = space.field
    return field.add(field.trace(c), field.multiply(field.norm(c), space.value(u))) == 0


def unitary(space, u, c):
    """The map of a hermitian space that takes `x` to `x` plus `c h(x, u)` times `u`."""
    _check(space, "hermitian", (u,), (c,))
    if not _is_unitary(space, u, c):
        raise Refused("isometry")
    return _along(space, u, c)


def unitary_numbers(space, u):
    """The ascending tuple of the numbers that `unitary` takes for the row `u`."""
    _check(space, "hermitian", (u,), ())
    return tuple(c for c in space.field.numbers() if _is_unitary(space, u, c))


def _siegel_image(space, u, w, x):
    """The image of `x` under the Siegel map by `u` and `w`."""
    field = space.field
    along_w = space.product(x, u)
    less = field.add(space.product(x, w), field.multiply(space.value(w), along_w))
    return add_multiple(field, add_multiple(field, x, along_w, w), field.negative(less), u)


def siegel(space, u, w):
    """The Siegel map by the rows `u`, of the value 0, and `w`, whose product with `u` is 0, in a quadratic space."""
    _check(space, "quadratic", (u, w), ())
    if space.value(u) != 0 or space.product(u, w) != 0:
        raise Refused("isometry")
    return Isometry(space, tuple(_siegel_image(space, u, w, x) for x in identity(space.n)))
