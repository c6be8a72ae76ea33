"""Normal spaces, normal forms and invariants (points 3.1 to 3.4)."""

from wittspaces.build import complement, core, matrix_of, plane_items, restricted
from wittspaces.errors import Malformed, Refused
from wittspaces.linear import add, add_multiple, combine, common_part, determinant, scaled
from wittspaces.space import MOST_ROWS, Space, field_of
from wittspaces.whole import is_integer


def _has_pairs(space):
    """True if the space is spanned by pairs and its radical: alternating, or quadratic in characteristic 2."""
    return space.kind == "alternating" or (space.kind == "quadratic" and space.field.p == 2)


def _perp_within(space, table, rows):
    """The space of the rows of `table` whose products with each of the rows are 0."""
    return common_part(space.field, table, space.perp(rows), space.n)


def _row_with_value(space, table):
    """A row with a value other than 0, in a space that is not 0 and has no radical."""
    field = space.field
    sums = [add_multiple(field, y, c, x) for i, x in enumerate(table) for y in table[:i] for c in field.numbers()]
    return [row for row in (*table, *sums) if space.value(row) != 0][0]


def orthogonal_basis(space):
    """A basis in which the product of any two rows is 0; the last `r` rows span the radical."""
    if _has_pairs(space):
        raise Refused("kind")
    left = complement(space)
    found = []
    while left:
        row = _row_with_value(space, left)
        found.append(row)
        left = _perp_within(space, left, (row,))
    return (*found, *space.radical())


def _partner(space, table, x):
    """A row with the product 1 with `x`, for `x` outside the radical, in a space of bilinear kind."""
    y = [row for row in table if space.product(x, row) != 0][0]
    return scaled(space.field, y, space.field.inverse(space.product(x, y)))


def pairs_basis(space):
    """Pairs of rows with the product 1, all others having the product 0, and rows that span the radical."""
    if not _has_pairs(space):
        raise Refused("kind")
    left = complement(space)
    pairs = []
    while left:
        pair = (left[0], _partner(space, left, left[0]))
        pairs.append(pair)
        left = _perp_within(space, left, pair)
    return tuple(pairs), space.radical()


def _odd_mark(space):
    """The mark of a quadratic space, `q` odd: by the determinant of the core, which is 2^rank times `d`."""
    field = space.field
    gram = core(space).gram()
    twos = field.power(field.add(1, 1), len(gram))
    return 1 if field.is_square(field.multiply(twos, determinant(field, gram))) else -1


def _even_mark(space):
    """The mark of a quadratic space, `q` even, whose radical is singular."""
    field = space.field
    total = 0
    for x, y in pairs_basis(space)[0]:
        total = field.add(total, field.multiply(space.value(x), space.value(y)))
    return 1 if field.half_root(total) is not None else -1


def invariants(space):
    """The tuple `(n, r, s, mark)`, which tells the normal form."""
    r = len(space.radical())
    s = len(space.singular_radical())
    mark = 0
    if space.kind == "quadratic" and r == s:
        mark = _even_mark(space) if space.field.p == 2 else _odd_mark(space)
    return space.n, r, s, mark


def is_normal(space):
    """True if the space is normal."""
    return space == normal_space(space.kind, space.q, invariants(space))


def _are_invariants(kind, field, numbers):
    """True if the value is the tuple `(n, r, s, mark)` of a normal space, of whatever dimension."""
    if not isinstance(numbers, tuple) or len(numbers) != 4 or not all([is_integer(k) for k in numbers]):
        return False
    n, r, s, mark = numbers
    if not n >= r >= s >= 0:
        return False
    even_rank = (n - r) % 2 == 0
    if kind == "alternating":
        return r == s and mark == 0 and even_rank
    if kind == "hermitian":
        return r == s and mark == 0
    if field.p == 2 and r == s + 1:
        return mark == 0 and even_rank
    if r > s or (field.p == 2 and not even_rank):
        return False
    return mark == 1 or (mark == -1 and n > r)


def _normal_items(kind, field, numbers):
    """The items other than 0 of the matrix of the normal space with these invariants."""
    n, r, s, mark = numbers
    rank = n - r
    if kind == "hermitian" or (kind == "quadratic" and field.p != 2):
        items = {(i, i): 1 for i in range(rank)}
        if mark == -1:
            items[rank - 1, rank - 1] = field.least_nonsquare()
        return items
    items = plane_items(kind, field, rank // 2)
    if mark == -1:
        items[rank - 2, rank - 2] = 1
        items[rank - 1, rank - 1] = field.least_without_root()
    if r > s:
        items[rank, rank] = 1
    return items


def normal_space(kind, q, numbers):
    """The normal space with the tuple `numbers` as its invariants."""
    field = field_of(kind, q)
    if not _are_invariants(kind, field, numbers):
        raise Malformed("no invariants of a space")
    n = numbers[0]
    if n > MOST_ROWS:
        raise Refused("large")
    return Space(kind, q, matrix_of(n, _normal_items(kind, field, numbers)))


def _hermitian_rows(space):
    """The basis of the normal form of a hermitian space."""
    field = space.field
    rank = space.n - len(space.radical())
    basis = orthogonal_basis(space)
    found = []
    for row in basis[:rank]:
        wanted = field.inverse(space.value(row))
        factor = [c for c in field.numbers() if field.norm(c) == wanted][0]
        found.append(scaled(field, row, factor))
    return (*found, *basis[rank:])


def _with_value_one(space, u, w):
    """For two rows with the product 0 and values other than 0: two such rows of their plane, the first of value 1."""
    field = space.field
    a = space.value(u)
    c = space.value(w)
    weights = [(x, y) for x in field.numbers() for y in field.numbers()]
    found = [pair for pair in weights if space.value(combine(field, (u, w), pair, space.n)) == 1]
    x, y = found[0]
    other = (field.negative(field.multiply(c, y)), field.multiply(a, x))
    return combine(field, (u, w), (x, y), space.n), combine(field, (u, w), other, space.n)


def _odd_rows(space):
    """The basis of the normal form of a quadratic space, `q` odd."""
    field = space.field
    rank = space.n - len(space.radical())
    rows = list(orthogonal_basis(space))
    for i in range(rank - 1):
        rows[i], rows[i + 1] = _with_value_one(space, rows[i], rows[i + 1])
    if rank > 0:
        last = space.value(rows[rank - 1])
        wanted = 1 if field.is_square(last) else field.least_nonsquare()
        factor = field.root(field.multiply(wanted, field.inverse(last)))
        rows[rank - 1] = scaled(field, rows[rank - 1], factor)
    return tuple(rows)


def _flat(pairs):
    """The tuple of the rows of the pairs, in order."""
    return tuple(row for pair in pairs for row in pair)


def _normal_pair(space, pair):
    """A pair of the same plane with the product 1: hyperbolic, or with the values 1 and the least without a root."""
    field = space.field
    x, y = pair
    if space.value(x) == 0:
        return x, add_multiple(field, y, space.value(y), x)
    factor = field.root(space.value(x))
    x = scaled(field, x, field.inverse(factor))
    y = scaled(field, y, factor)
    c = field.half_root(space.value(y))
    if c is not None:
        e = add_multiple(field, y, c, x)
        return e, add(field, x, e)
    # The value of `y` and the least number without a root differ by a number of the form `c + c c`.
    c = field.half_root(field.add(space.value(y), field.least_without_root()))
    return x, add_multiple(field, y, c, x)


def _merged(space, one, two):
    """The hyperbolic pairs that span the same rows as two pairs of the second kind."""
    x, y = one
    u, v = two
    first = (add(space.field, x, u), y)
    second = (u, add(space.field, y, v))
    return [_normal_pair(space, first), _normal_pair(space, second)]


def _normal_pairs(space, pairs):
    """Pairs that span the same rows, all of them hyperbolic but perhaps the last one."""
    done = []
    left = []
    for pair in pairs:
        found = _normal_pair(space, pair)
        if space.value(found[0]) == 0:
            done.append(found)
        elif left:
            done.extend(_merged(space, left.pop(), found))
        else:
            left.append(found)
    return done + left


def _even_rows(space):
    """The basis of the normal form of a quadratic space, `q` even."""
    field = space.field
    pairs, radical = pairs_basis(space)
    zeros = space.singular_radical()
    tops = [row for row in radical if space.value(row) != 0]
    if not tops:
        return (*_flat(_normal_pairs(space, pairs)), *zeros)
    z = scaled(field, tops[0], field.inverse(field.root(space.value(tops[0]))))
    rows = [add_multiple(field, row, field.root(space.value(row)), z) for row in _flat(pairs)]
    return (*rows, z, *zeros)


def normal_form(space):
    """The pair of the normal form and a basis: restricted to it the space is this normal form."""
    if space.kind == "hermitian":
        rows = _hermitian_rows(space)
    elif space.kind == "alternating":
        pairs, zeros = pairs_basis(space)
        rows = (*_flat(pairs), *zeros)
    elif space.field.p == 2:
        rows = _even_rows(space)
    else:
        rows = _odd_rows(space)
    return restricted(space, rows), rows


def discriminant(space):
    """The number `d` of the normal form of a quadratic space, `q` odd."""
    if space.kind != "quadratic":
        raise Refused("kind")
    if space.field.p == 2:
        raise Refused("two")
    return space.field.least_nonsquare() if invariants(space)[3] == -1 else 1


def sign(space):
    """The sign, 1 or -1, of a quadratic space of even rank whose radical is singular."""
    if space.kind != "quadratic":
        raise Refused("kind")
    n, r, s, mark = invariants(space)
    if (n - r) % 2 == 1 or r > s:
        raise Refused("even")
    field = space.field
    if field.p == 2:
        return mark
    planes = field.power(field.negative(1), (n - r) // 2)
    return 1 if field.is_square(field.multiply(planes, discriminant(space))) else -1
