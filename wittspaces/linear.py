"""Rows, spaces given by reduced tables, and matrices (points 1.4 to 1.6)."""

from wittspaces.errors import Refused


def is_row(field, value, n):
    """True if the value is a row of the length `n`."""
    return isinstance(value, tuple) and len(value) == n and all([field.is_number(c) for c in value])


def unit_row(n, i):
    """The row of the length `n` with 1 at the index `i` and 0 elsewhere."""
    return tuple(1 if k == i else 0 for k in range(n))


def add(field, v, w):
    """The sum of two rows."""
    sums = field.sums
    return tuple(sums[a][b] for a, b in zip(v, w))


def scaled(field, v, c):
    """The row times the number `c`."""
    multiples = field.products[c]
    return tuple(multiples[a] for a in v)


def add_multiple(field, v, c, w):
    """The sum of the row `v` and `c` times the row `w`."""
    return add(field, v, scaled(field, w, c))


def dot(field, v, w):
    """The sum of the products of the items of two rows."""
    sums = field.sums
    products = field.products
    total = 0
    for a, b in zip(v, w):
        total = sums[total][products[a][b]]
    return total


def combine(field, rows, weights, width):
    """The sum of the rows times the numbers of `weights`."""
    total = (0,) * width
    for row, weight in zip(rows, weights):
        if weight != 0:
            total = add_multiple(field, total, weight, row)
    return total


def _cleared(field, rows, head, place):
    """The rows that are not 0 of these: each row less the multiple of `head`, 1 at `place`, that makes 0 there."""
    found = [add_multiple(field, row, field.negative(row[place]), head) for row in rows]
    return [row for row in found if any(row)]


def reduced(field, rows, width):
    """The pair of the reduced table of the space that the rows span and the tuple of its pivots."""
    left = list(rows)
    table = []
    pivots = []
    for place in range(width):
        found = [row for row in left if row[place] != 0]
        if found:
            head = scaled(field, found[0], field.inverse(found[0][place]))
            left = _cleared(field, left, head, place)
            table = _cleared(field, table, head, place) + [head]
            pivots.append(place)
    return tuple(table), tuple(pivots)


def span(field, rows, width):
    """The reduced table of the space that the rows span."""
    return reduced(field, rows, width)[0]


def is_space(field, value, width):
    """True if the value is a reduced table of the width."""
    if not isinstance(value, tuple) or not all([is_row(field, row, width) for row in value]):
        return False
    return span(field, value, width) == value


def _pivots(space):
    """The list of the pivots of a reduced table."""
    return [row.index(1) for row in space]


def _free_places(space, width):
    """The list of the places that are no pivots of a reduced table."""
    pivots = _pivots(space)
    return [place for place in range(width) if place not in pivots]


def kernel(field, rows, width):
    """The space of all rows whose dot product with each of the rows is 0."""
    table, pivots = reduced(field, rows, width)
    found = []
    for place in _free_places(table, width):
        # The items at the free places are free to choose, and tell those at the pivots.
        items = list(unit_row(width, place))
        for row, pivot in zip(table, pivots):
            items[pivot] = field.negative(row[place])
        found.append(tuple(items))
    return span(field, found, width)


def relations(field, rows, width):
    """The space of all rows of multiples for which the sum of the multiples of the rows is 0."""
    return kernel(field, transposed(rows, width), len(rows))


def solve(field, rows, width, right):
    """The row with the dot products `right` with the rows and 0 at the free places of their span, or None."""
    joined = [(*row, c) for row, c in zip(rows, right)]
    table, pivots = reduced(field, joined, width + 1)
    if width in pivots:
        return None
    items = [0] * width
    for row, pivot in zip(table, pivots):
        items[pivot] = row[width]
    return tuple(items)


def coordinates(field, rows, v):
    """The tuple of multiples of independent rows whose sum is the row `v`, or None."""
    return solve(field, transposed(rows, len(v)), len(rows), v)


def holds(field, space, v):
    """True if the row `v` is in the space."""
    return not any(rest(field, space, v))


def rest(field, space, v):
    """The row with 0 at all pivots that is `v` less some row of the space."""
    for row, pivot in zip(space, _pivots(space)):
        v = add_multiple(field, v, field.negative(v[pivot]), row)
    return v


def sum_of(field, a, b, width):
    """The space of all sums of a row of `a` and one of `b`."""
    return span(field, (*a, *b), width)


def common_part(field, a, b, width):
    """The space of the rows that are in `a` and in `b`."""
    # A space consists of all rows with the dot product 0 with the rows of its kernel.
    return kernel(field, (*kernel(field, a, width), *kernel(field, b, width)), width)


def complement_rows(space, width):
    """The tuple of the unit rows at the free places, ascending by place."""
    return tuple(unit_row(width, place) for place in _free_places(space, width))


def all_rows(field, space, width):
    """All rows of the space, ascending; a generator."""
    if not space:
        yield (0,) * width
        return
    head = space[:-1]
    multiples = [scaled(field, space[-1], c) for c in field.numbers()]
    # The last row has 0 up to the pivots of the others, so its multiples come last in the order.
    for row in all_rows(field, head, width):
        for multiple in multiples:
            yield add(field, row, multiple)


def moved(field, v, rows, width):
    """The product of a row and some rows."""
    return combine(field, rows, v, width)


def times(field, one, two, width):
    """The tuple of the products of the rows of `one` with the rows `two`."""
    return tuple(moved(field, v, two, width) for v in one)


def transposed(rows, width):
    """The tuple of the columns."""
    return tuple(tuple(row[place] for row in rows) for place in range(width))


def mirrored_rows(field, rows):
    """The tuple of the rows with their conjugated items."""
    return tuple(tuple(field.mirrored(c) for c in row) for row in rows)


def identity(n):
    """The unit matrix."""
    return tuple(unit_row(n, i) for i in range(n))


def is_matrix(field, value, n):
    """True if the value is a matrix of the size `n`."""
    return isinstance(value, tuple) and len(value) == n and all([is_row(field, row, n) for row in value])


def determinant(field, matrix):
    """The determinant of a matrix."""
    left = list(matrix)
    result = 1
    for place in range(len(matrix)):
        found = [at for at, row in enumerate(left) if row[place] != 0]
        if not found:
            return 0
        head = left.pop(found[0])
        result = field.multiply(result, head[place])
        if found[0] % 2 == 1:
            result = field.negative(result)
        unit = scaled(field, head, field.inverse(head[place]))
        left = [add_multiple(field, row, field.negative(row[place]), unit) for row in left]
    return result


def matrix_inverse(field, matrix):
    """The inverse of a matrix."""
    n = len(matrix)
    joined = [(*row, *unit) for row, unit in zip(matrix, identity(n))]
    table, pivots = reduced(field, joined, 2 * n)
    if pivots != tuple(range(n)):
        raise Refused("singular")
    return tuple(row[n:] for row in table)
