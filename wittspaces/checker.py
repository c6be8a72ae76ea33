"""The checker of papers (points 10.1 to 10.6): it multiplies, adds and compares with chapters 1 and 2 alone."""

from wittspaces.build import matrix_of, plane_items, restricted
from wittspaces.linear import (
    add, add_multiple, all_rows, combine, determinant, identity, is_matrix, is_row, moved, scaled, span, times,
    unit_row,
)
from wittspaces.whole import is_integer, power

MOST_REST = 3

SIGNED = (0, 2, 4)


def _is_paper(paper, word, many):
    """True if the value is a tuple of `many` items, the first one of which is the word."""
    return isinstance(paper, tuple) and len(paper) == many and paper[0] == word


def _is_basis(space, value):
    """True if the value is a table of as many rows as the space has dimensions, with an inverse."""
    return is_matrix(space.field, value, space.n) and determinant(space.field, value) != 0


def _is_in_radical(space, x):
    """True if the products of the row with all rows are 0."""
    return not any([space.product(x, unit) for unit in identity(space.n)])


def _normal_items(space, k):
    """The items of the matrices of the normal spaces of the rank `k`: a list of dicts from pairs of places."""
    field = space.field
    planes = plane_items(space.kind, field, k // 2)
    ones = {(i, i): 1 for i in range(k)}
    if space.kind == "hermitian":
        return [ones]
    if space.kind == "quadratic" and field.p != 2:
        return [ones] if k == 0 else [ones, {**ones, (k - 1, k - 1): field.least_nonsquare()}]
    found = [planes] if k % 2 == 0 else []
    if space.kind == "quadratic" and k % 2 == 0:
        if k > 0:
            found.append({**planes, (k - 2, k - 2): 1, (k - 1, k - 1): field.least_without_root()})
        if k < space.n:
            found.append({**planes, (k, k): 1})
    return found


def _is_normal(space):
    """True if the matrix of the space is that of a normal one."""
    n = space.n
    return any([space.matrix == matrix_of(n, items) for k in range(n + 1) for items in _normal_items(space, k)])


def _shows_apart(a, b, first, second):
    """True if the rows are bases in which the spaces are both normal, and unlike."""
    if not _is_basis(a, first) or not _is_basis(b, second):
        return False
    one = restricted(a, first)
    two = restricted(b, second)
    return _is_normal(one) and _is_normal(two) and not one == two


def takes_isometry(a, b, paper):
    """True if the paper shows that the spaces are isometric, or that they are not."""
    alike = a.kind == b.kind and a.q == b.q and a.n == b.n
    if _is_paper(paper, "unlike", 1):
        return not alike
    if not alike:
        return False
    if _is_paper(paper, "isometry", 2):
        return _is_basis(b, paper[1]) and restricted(b, paper[1]) == a
    return _is_paper(paper, "apart", 3) and _shows_apart(a, b, paper[1], paper[2])


def _extends(space, us, vs, matrix):
    """True if the value is a matrix with an inverse that keeps the form and takes each row to that at its place."""
    if not _is_basis(space, matrix) or not restricted(space, matrix) == space:
        return False
    return all([moved(space.field, u, matrix, space.n) == v for u, v in zip(us, vs)])


def _bars(space, us, vs, weights):
    """True if the weights are numbers for which exactly one of both sums is in the radical."""
    if not is_row(space.field, weights, len(us)):
        return False
    u = combine(space.field, us, weights, space.n)
    v = combine(space.field, vs, weights, space.n)
    return _is_in_radical(space, u) != _is_in_radical(space, v)


def takes_extension(space, us, vs, paper):
    """True if the paper shows that the partial isometry has an extension, or that it has none."""
    if _is_paper(paper, "extension", 2):
        return _extends(space, us, vs, paper[1])
    return _is_paper(paper, "barrier", 2) and _bars(space, us, vs, paper[1])


def _are_pairs(value):
    """True if the value is a tuple of tuples of two items."""
    if not isinstance(value, tuple):
        return False
    return all([isinstance(pair, tuple) and len(pair) == 2 for pair in value])


def _are_apart(space, one, two):
    """True if the rows of the one and those of the other have the product 0."""
    return not any([space.product(x, y) for x in one for y in two])


def _are_hyperbolic(space, pairs, rest):
    """True if the pairs are hyperbolic, and rows of unlike pairs, and of pairs and the rest, have the product 0."""
    for i, (e, f) in enumerate(pairs):
        if space.value(e) != 0 or space.value(f) != 0 or space.product(e, f) != 1:
            return False
        others = [row for pair in pairs[:i] for row in pair]
        if not _are_apart(space, (e, f), (*others, *rest)):
            return False
    return True


def _is_anisotropic(space, rest):
    """True if no row other than 0 in the span of the independent rows has the value 0."""
    table = span(space.field, rest, space.n)
    return all([space.value(row) != 0 or not any(row) for row in all_rows(space.field, table, space.n)])


def _is_witt_basis(space, pairs, rest, zeros):
    """True if the pairs, the rest and the zeros are rows as point 10.4 asks."""
    flat = [row for pair in pairs for row in pair]
    if not _is_basis(space, (*flat, *rest, *zeros)) or not _are_hyperbolic(space, pairs, rest):
        return False
    if not all([_is_in_radical(space, row) and space.value(row) == 0 for row in zeros]):
        return False
    return len(rest) <= MOST_REST and _is_anisotropic(space, rest)


def takes_index(space, paper):
    """True if the paper shows the Witt index of the space."""
    if not _is_paper(paper, "index", 4):
        return False
    _, pairs, rest, zeros = paper
    if not _are_pairs(pairs) or not isinstance(rest, tuple) or not isinstance(zeros, tuple):
        return False
    return _is_witt_basis(space, pairs, rest, zeros)


def _is_member(index, i):
    """True if `i` is a member of the set that the index tells."""
    return index >> i & 1 == 1


def _with_unit(space, index, i):
    """The product of `e_J`, `J` told by the index, and `e_i`: a tuple of numbers as in point 7.1."""
    size = power(2, space.n)
    if index < power(2, i):
        return unit_row(size, index + power(2, i))
    # The greatest member `j` comes last in `e_J`.
    j = index.bit_length() - 1
    step = power(2, j)
    less = unit_row(size, index - step)
    if j == i:
        return scaled(space.field, less, space.value(space.unit(i)))
    # e_j e_i = b(e_i, e_j) - e_i e_j, and before the last `e_j` there are lesser members alone.
    before = _with_unit(space, index - step, i)
    behind = (0,) * step + before[:size - step]
    kept = scaled(space.field, less, space.product(space.unit(i), space.unit(j)))
    return add_multiple(space.field, kept, space.field.negative(1), behind)


def _products_with(space, a):
    """For each set `J` the product of the element `a` and `e_J`."""
    size = power(2, space.n)
    tables = [[_with_unit(space, index, i) for index in range(size)] for i in range(space.n)]
    found = [a]
    for index in range(1, size):
        j = index.bit_length() - 1
        found.append(combine(space.field, tables[j], found[index - power(2, j)], size))
    return found


def _product(space, a, b):
    """The product of two elements of the Clifford algebra."""
    return combine(space.field, _products_with(space, a), b, power(2, space.n))


def _is_even(space, z):
    """True if the items at sets with an odd number of members are 0."""
    odd = [index for index in range(len(z)) if sum([1 for i in range(space.n) if _is_member(index, i)]) % 2 == 1]
    return not any([z[index] for index in odd])


def _one_less(field, a):
    """1 less the element `a`."""
    return add(field, unit_row(len(a), 0), scaled(field, a, field.negative(1)))


def _turns_round(space, z):
    """True if `u z = (1 - z) u` for the unit rows `u`."""
    size = len(z)
    other = _products_with(space, _one_less(space.field, z))
    units = [power(2, i) for i in range(space.n)]
    return all([_product(space, unit_row(size, index), z) == other[index] for index in units])


def _is_pairing(space, z, d):
    """True if the element and the number are a pairing of the space."""
    field = space.field
    two = field.add(1, 1)
    if not _is_even(space, z) or field.multiply(field.multiply(two, two), d) == 1:
        return False
    less = add_multiple(field, z, field.negative(d), unit_row(len(z), 0))
    return _product(space, z, z) == less and _turns_round(space, z)


def _has_root(field, d):
    """True if `T T - T + d` has a root in the field."""
    return any([field.add(field.subtract(field.multiply(t, t), t), d) == 0 for t in field.numbers()])


def takes_sign(space, paper):
    """True if the paper shows the sign of a quadratic space of the dimension 0, 2 or 4 without radical."""
    if space.kind != "quadratic" or space.n not in SIGNED or space.radical():
        return False
    if not _is_paper(paper, "sign", 4):
        return False
    _, sign, z, d = paper
    field = space.field
    if not is_integer(sign) or sign not in (1, -1) or not field.is_number(d):
        return False
    if not is_row(field, z, power(2, space.n)) or not _is_pairing(space, z, d):
        return False
    return _has_root(field, d) == (sign == 1)


def _factor(space, item):
    """The row `u` and the number `c` of the map `x` to `x + c b(x, u) u` that an item tells, or None."""
    field = space.field
    if space.kind == "quadratic":
        if not space.is_row(item) or space.value(item) == 0:
            return None
        return item, field.negative(field.inverse(space.value(item)))
    if not isinstance(item, tuple) or len(item) != 2:
        return None
    k, u = item
    if not field.is_number(k) or k == 0 or not space.is_row(u) or not any(u):
        return None
    return u, k


def _step(space, u, c):
    """The matrix of the map that takes `x` to `x` plus `c b(x, u)` times `u`."""
    field = space.field
    return [add_multiple(field, x, field.multiply(c, space.product(x, u)), u) for x in identity(space.n)]


def takes_factors(isometry, paper):
    """True if the paper shows the isometry as a product of reflections or of transvections."""
    space = isometry.space
    if space.kind == "hermitian" or not _is_paper(paper, "factors", 2) or not isinstance(paper[1], tuple):
        return False
    matrix = identity(space.n)
    for item in paper[1]:
        factor = _factor(space, item)
        if factor is None:
            return False
        matrix = times(space.field, matrix, _step(space, factor[0], factor[1]), space.n)
    return matrix == isometry.matrix
