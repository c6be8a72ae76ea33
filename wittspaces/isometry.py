"""Isometries of a space, given by matrices (points 5.1 and 5.2)."""

from wittspaces.build import restricted
from wittspaces.errors import Malformed, Refused
from wittspaces.linear import (
    add_multiple, identity, is_matrix, matrix_inverse, moved, relations, span, times,
)
from wittspaces.space import Space

MOST_POWERS = 2000


def keeps_form(space, matrix):
    """True if the map of a matrix of the size of the space keeps all values and products."""
    return restricted(space, matrix) == space


def is_isometry(space, value):
    """True if the value is the matrix of an isometry of the space."""
    if not is_matrix(space.field, value, space.n) or not keeps_form(space, value):
        return False
    return len(span(space.field, value, space.n)) == space.n


class Isometry:
    """The isometry of `space` that takes each row to its product with `matrix`."""

    def __init__(self, space, matrix):
        if not isinstance(space, Space) or not is_matrix(space.field, matrix, space.n):
            raise Malformed("no space, or no matrix of its size")
        if not is_isometry(space, matrix):
            raise Refused("isometry")
        self.space = space
        self.matrix = matrix

    def __eq__(self, other):
        if not isinstance(other, Isometry):
            return False
        return self.space == other.space and self.matrix == other.matrix

    def __call__(self, v):
        """The image of a row."""
        if not self.space.is_row(v):
            raise Malformed("no row of the space")
        return moved(self.space.field, v, self.matrix, self.space.n)

    def then(self, g):
        """The isometry that first takes this one and then `g`."""
        if not isinstance(g, Isometry) or not g.space == self.space:
            raise Malformed("no isometry of the same space")
        return Isometry(self.space, times(self.space.field, self.matrix, g.matrix, self.space.n))

    def inverse(self):
        """The isometry that takes the images back."""
        return Isometry(self.space, matrix_inverse(self.space.field, self.matrix))

    def power(self, k):
        """This isometry taken `k` times; for `k` below 0 its inverse."""
        field = self.space.field
        size = self.space.n
        square = self.matrix if k >= 0 else matrix_inverse(field, self.matrix)
        result = identity(size)
        left = abs(k)
        while left > 0:
            if left % 2 == 1:
                result = times(field, result, square, size)
            square = times(field, square, square, size)
            left = left // 2
        return Isometry(self.space, result)

    def is_identity(self):
        """True if each row is its own image."""
        return self.matrix == identity(self.space.n)

    def order(self):
        """The least `k` from 1 on for which the k-th power is the identity."""
        unit = identity(self.space.n)
        matrix = self.matrix
        for k in range(1, MOST_POWERS + 1):
            if matrix == unit:
                return k
            matrix = times(self.space.field, matrix, self.matrix, self.space.n)
        raise Refused("many")

    def _differences(self):
        """The list of the images of the unit rows less these rows."""
        field = self.space.field
        less = field.negative(1)
        return [add_multiple(field, row, less, unit) for row, unit in zip(self.matrix, identity(self.space.n))]

    def fixed(self):
        """The space of the rows that are their own images."""
        return relations(self.space.field, self._differences(), self.space.n)

    def residual(self):
        """The space of all differences of an image and its row."""
        return span(self.space.field, self._differences(), self.space.n)
