"""Witt classes, their sums, negatives and products, and products of spaces (points 9.1 to 9.3)."""

from wittspaces.build import direct_sum, matrix_of, scaled
from wittspaces.errors import Malformed, Refused
from wittspaces.normal import normal_space
from wittspaces.similar import anisotropic_part, witt_index
from wittspaces.space import MOST_ROWS, Space, field_of


def _check_alike(a, b):
    """Raises Malformed for spaces of unlike kinds or fields."""
    if a.kind != b.kind or a.q != b.q:
        raise Malformed("unlike kinds or fields")


def _check_factors(a, b):
    """Raises the error that is due if two spaces, of any dimensions and radicals, have no product."""
    _check_alike(a, b)
    if a.kind != "quadratic":
        raise Refused("kind")
    if a.field.p == 2:
        raise Refused("two")


def witt_class(space):
    """The class of a space without radical: the normal form of its anisotropic part."""
    if space.radical():
        raise Refused("radical")
    return anisotropic_part(space)


def class_sum(a, b):
    """The class of the direct sum."""
    _check_alike(a, b)
    # The sum of the classes has at most the dimension 4, whatever the spaces have.
    return witt_class(direct_sum(witt_class(a), witt_class(b)))


def class_negative(a):
    """The class of the space multiplied by -1."""
    return witt_class(scaled(a, a.field.negative(1)))


def class_product(a, b):
    """The class of the product of two quadratic spaces, `q` odd."""
    _check_factors(a, b)
    return witt_class(tensor(witt_class(a), witt_class(b)))


def _normals_of_dimension(kind, q, n):
    """The list of the normal spaces of a dimension without radical."""
    found = []
    for mark in (1, 0, -1):
        try:
            found.append(normal_space(kind, q, (n, 0, 0, mark)))
        except Malformed:
            # No normal space has this mark.
            pass
    return found


def _classes_of_dimension(kind, q, n):
    """The list of the classes of a dimension, ascending by the matrix."""
    found = [space for space in _normals_of_dimension(kind, q, n) if witt_index(space) == 0]
    return sorted(found, key=lambda one: one.matrix)


def all_classes(kind, q):
    """The tuple of all classes, ascending by the dimension, then by the matrix."""
    field_of(kind, q)
    return tuple(space for n in range(3) for space in _classes_of_dimension(kind, q, n))


def sum_table(kind, q):
    """The tuple of the rows of the indexes of the sums of two classes."""
    classes = all_classes(kind, q)
    return tuple(tuple(classes.index(class_sum(a, b)) for b in classes) for a in classes)


def product_table(q):
    """The tuple of the rows of the indexes of the products of two classes of quadratic spaces, `q` odd."""
    classes = all_classes("quadratic", q)
    return tuple(tuple(classes.index(class_product(a, b)) for b in classes) for a in classes)


def _tensor_item(a, b, x, y):
    """The item of the matrix of the product of `a` and `b` at the places `x`, `y`, two pairs of indexes."""
    field = a.field
    i, j = x
    k, h = y
    if x == y:
        return field.multiply(a.matrix[i][i], b.matrix[j][j])
    both = field.multiply(a.gram()[i][k], b.gram()[j][h])
    return field.multiply(both, field.inverse(field.add(1, 1))) if x < y else 0


def tensor(a, b):
    """The product of two quadratic spaces, `q` odd."""
    _check_factors(a, b)
    n = a.n * b.n
    if n > MOST_ROWS:
        raise Refused("large")
    places = [(i, j) for i in range(a.n) for j in range(b.n)]
    items = {(at, to): _tensor_item(a, b, x, y) for at, x in enumerate(places) for to, y in enumerate(places)}
    return Space("quadratic", a.q, matrix_of(n, items))
