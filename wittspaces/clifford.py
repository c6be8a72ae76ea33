"""The Clifford algebra of a quadratic space (points 7.1 and 7.2)."""

from wittspaces.errors import Malformed, Refused
from wittspaces.isometry import keeps_form
from wittspaces.linear import add, combine, identity, is_matrix, is_row, scaled, solve, transposed, unit_row
from wittspaces.space import Space
from wittspaces.whole import power

MOST_GENERATORS = 5


def _is_member(index, i):
    """True if `i` is a member of the set that the index tells."""
    return index >> i & 1 == 1


def _is_odd(index):
    """True if the set that the index tells has an odd number of members."""
    return sum([1 for i in range(MOST_GENERATORS) if _is_member(index, i)]) % 2 == 1


def _generated(space, i, index):
    """The product of `e_i` and `e_J`, `J` told by the index: a tuple of pairs of an index and a number."""
    field = space.field
    found = []
    passed = 1
    # `e_i` goes behind the lesser members, one by one: `e_i e_j = b(e_i, e_j) - e_j e_i`.
    for j in range(i):
        if _is_member(index, j):
            found.append((index - power(2, j), field.multiply(passed, space.gram()[i][j])))
            passed = field.negative(passed)
    if _is_member(index, i):
        found.append((index - power(2, i), field.multiply(passed, space.matrix[i][i])))
    else:
        found.append((index + power(2, i), passed))
    return tuple(pair for pair in found if pair[1] != 0)


class Clifford:
    """The Clifford algebra of a quadratic space; its elements are tuples of `size` numbers."""

    def __init__(self, space):
        if not isinstance(space, Space):
            raise Malformed("no space")
        if space.kind != "quadratic":
            raise Refused("kind")
        if space.n > MOST_GENERATORS:
            raise Refused("large")
        size = power(2, space.n)
        self.space = space
        self.size = size
        self._products = tuple(tuple(_generated(space, i, index) for index in range(size)) for i in range(space.n))

    def __eq__(self, other):
        return isinstance(other, Clifford) and self.space == other.space

    def is_element(self, value):
        """True if the value is an element."""
        return is_row(self.space.field, value, self.size)

    def number(self, c):
        """The element for a number."""
        return scaled(self.space.field, self.unit(0), c)

    def row(self, x):
        """The element for a row."""
        return self._row_times(x, self.unit(0))

    def unit(self, index):
        """The element `e_J` for the set `J` that the index tells."""
        return unit_row(self.size, index)

    def _row_times(self, x, a):
        """The product of a row and an element."""
        sums = self.space.field.sums
        products = self.space.field.products
        items = [0] * self.size
        places = [i for i, c in enumerate(x) if c != 0]
        for index, weight in enumerate(a):
            if weight != 0:
                for i in places:
                    both = products[x[i]][weight]
                    for at, c in self._products[i][index]:
                        items[at] = sums[items[at]][products[both][c]]
        return tuple(items)

    def _products_before(self, rows, a):
        """For each index the product of the rows with the members of its set as indexes, ascending, and `a`."""
        found = [a]
        for index in range(1, self.size):
            # The least member of the set tells the first row.
            least = index & -index
            found.append(self._row_times(rows[least.bit_length() - 1], found[index - least]))
        return found

    def product_of(self, rows):
        """The product of the rows, in order."""
        result = self.unit(0)
        for row in reversed(rows):
            result = self._row_times(row, result)
        return result

    def add(self, a, b):
        """The sum of two elements."""
        return add(self.space.field, a, b)

    def negative(self, a):
        """The element whose sum with `a` is 0."""
        return self.scaled(a, self.space.field.negative(1))

    def scaled(self, a, c):
        """The multiple of an element by the number `c`."""
        return scaled(self.space.field, a, c)

    def multiply(self, a, b):
        """The product of two elements."""
        return combine(self.space.field, self._products_before(identity(self.space.n), b), a, self.size)

    def is_even(self, a):
        """True if the items of an element at sets with an odd number of members are 0."""
        return not any([c for index, c in enumerate(a) if _is_odd(index)])

    def turned(self, a):
        """The element with the items at sets with an odd number of members multiplied by -1."""
        field = self.space.field
        return tuple(field.negative(c) if _is_odd(index) else c for index, c in enumerate(a))

    def reversed_of(self, a):
        """The element with the products of rows in the opposite order."""
        units = identity(self.space.n)
        found = [self.unit(0)]
        for index in range(1, self.size):
            # The greatest member of the set comes first.
            i = index.bit_length() - 1
            found.append(self._row_times(units[i], found[index - power(2, i)]))
        return combine(self.space.field, found, a, self.size)

    def inverse(self, a):
        """The element whose products with `a`, on both sides, are 1."""
        rows = self._products_before(identity(self.space.n), a)
        # What gives 1 from the left does so from the right, as the algebra has finitely many elements.
        found = solve(self.space.field, transposed(rows, self.size), self.size, self.unit(0))
        if found is None:
            raise Refused("inverse")
        return found

    def image(self, matrix, a):
        """The image of an element under the map that takes each row to its product with the matrix."""
        if not is_matrix(self.space.field, matrix, self.space.n):
            raise Malformed("no matrix of the size of the space")
        if not keeps_form(self.space, matrix):
            raise Refused("isometry")
        return combine(self.space.field, self._products_before(matrix, self.unit(0)), a, self.size)
