"""What the tests of maps share: spaces, drawn isometries by their formulas, outcomes, odd rows and matrices."""

from helper import (
    FORMS, MINUS, MIRROR, PLUS, TIMES, disguised, nested, normals, odd_values, samples, slow_add, slow_combine,
    slow_determinant, slow_dot, slow_moved, slow_product, slow_scaled, slow_value, walk,
)
from wittspaces.errors import Malformed, Refused
from wittspaces.space import Space


def told(space):
    return space.kind, space.q, space.matrix


def value(space, x):
    return slow_value(*told(space), x)


def product_of(space, x, y):
    return slow_product(*told(space), x, y)


def units(n):
    return tuple(tuple(int(i == j) for j in range(n)) for i in range(n))


def drawn_spaces(source, most, forms=tuple(FORMS), each=1):
    """Spaces of all normal forms up to the dimension `most(kind, q)`, in drawn bases."""
    for kind, q in forms:
        for _, matrix in samples(source, kind, q, most(kind, q), each):
            yield Space(kind, q, matrix)


def spaces_of(source, kind, q, n):
    """A space of each normal form of one dimension, in a drawn basis."""
    return [Space(kind, q, disguised(source, kind, q, matrix)) for _, matrix in normals(kind, q, n)]


def outcome(function, *arguments):
    """The reason for which the call is refused, "malformed", or None if it raises no error."""
    try:
        function(*arguments)
    except Refused as fault:
        return fault.reason
    except Malformed:
        return "malformed"
    return None


def times(q, one, two, width):
    return tuple(slow_moved(q, row, two, width) for row in one)


def rank(q, rows):
    """The number of rows that are left when each one that is not 0 has been taken off the others."""
    left, many = [row for row in rows if any(row)], 0
    while left:
        head, many = left[0], many + 1
        place = [c != 0 for c in head].index(True)
        unit = slow_scaled(q, head, inverse_of(q, head[place]))
        left = [slow_add(q, row, slow_scaled(q, unit, MINUS[q][row[place]])) for row in left[1:]]
        left = [row for row in left if any(row)]
    return many


def are_independent(q, rows):
    return rank(q, rows) == len(rows)


def along(space, u, c):
    """The matrix of the map that takes x to x plus c b(x, u) times u."""
    q = space.q
    return tuple(
        slow_add(q, x, slow_scaled(q, u, TIMES[q][c][product_of(space, x, u)])) for x in units(space.n)
    )


def inverse_of(q, c):
    return TIMES[q][c].index(1)


def unitary_choices(space, u):
    """The numbers c with c + c' + c c' h(u, u) = 0."""
    q = space.q
    found = []
    for c in range(q):
        norm = TIMES[q][c][MIRROR[q][c]]
        if PLUS[q][PLUS[q][c][MIRROR[q][c]]][TIMES[q][norm][value(space, u)]] == 0:
            found.append(c)
    return found


def drawn_step(source, space):
    """The matrix of one drawn map of point 5.3."""
    q = space.q
    u = source.row(q, space.n)
    if space.kind == "alternating":
        return along(space, u, source.below(q))
    if space.kind == "hermitian":
        choices = unitary_choices(space, u)
        return along(space, u, choices[source.below(len(choices))])
    if value(space, u) == 0:
        return units(space.n)
    return along(space, u, MINUS[q][inverse_of(q, value(space, u))])


def drawn_slide(source, space, zeros):
    """The matrix of x to x plus f(x) times a row of the singular radical, for a drawn linear f."""
    q = space.q
    row = slow_combine(q, zeros, source.row(q, len(zeros)), space.n)
    f = source.row(q, space.n)
    if PLUS[q][1][slow_dot(q, f, row)] == 0:
        return units(space.n)
    return tuple(slow_add(q, x, slow_scaled(q, row, slow_dot(q, f, x))) for x in units(space.n))


def drawn_isometry(source, space, steps=4):
    """The matrix of an isometry: a product of drawn maps, of each kind that the space has."""
    matrix = units(space.n)
    zeros = space.singular_radical()
    for _ in range(steps):
        matrix = times(space.q, matrix, drawn_step(source, space), space.n)
        if zeros:
            matrix = times(space.q, matrix, drawn_slide(source, space, zeros), space.n)
    return matrix


def keeps(space, matrix):
    """True if values and products of the unit rows are those of their images."""
    n = space.n
    unit = units(n)
    if any(value(space, matrix[i]) != value(space, unit[i]) for i in range(n)):
        return False
    return all(
        product_of(space, matrix[i], matrix[j]) == product_of(space, unit[i], unit[j])
        for i in range(n) for j in range(i + 1, n)
    )


def all_isometries(space):
    """The matrices of all isometries, ascending, by walking all matrices of the size."""
    q, n = space.q, space.n
    rows = walk(q, n)
    unit = units(n)
    values = {x: value(space, x) for x in rows}
    products = {(x, y): product_of(space, x, y) for x in rows for y in rows}
    found = [()]
    for i in range(n):
        # Rows that are wrong already cannot become right by those behind them.
        found = [
            (*head, x) for head in found for x in rows if values[x] == values[unit[i]] and all(
                products[head[j], x] == products[unit[j], unit[i]] for j in range(i)
            )
        ]
    return [matrix for matrix in found if slow_determinant(q, matrix) != 0]


def odd_rows(q, n):
    """Values that look like rows of the length n, but are none, and odd values."""
    found = [value for value in odd_values() if not (n == 1 and value in ((0,), (1,)))]
    found += [[0] * n, (0,) * (n + 1), (q,) * (n + 1), ((0,) * n,), "0" * n, nested(tuple, 20)]
    if n > 0:
        head = (0,) * (n - 1)
        found += [head, (False, *head)] + [(*head, c) for c in (q, -1, True, None, "0", (0,))]
    return [value for value in found if not _is_row(q, n, value)]


def _is_row(q, n, value):
    return type(value) is tuple and len(value) == n and all(type(c) is int and 0 <= c < q for c in value)


def odd_matrices(q, n):
    """Values that are no matrices of the size n."""
    unit = units(n)
    found = [value for value in odd_values() if not (n == 1 and value == ((0,),))]
    found += [list(unit), unit + ((0,) * n,), tuple(row + (0,) for row in unit) + ((0,) * (n + 1),), "1" * n]
    if n > 0:
        head = unit[:-1]
        found += [head, tuple(list(row) for row in unit)]
        found += [(*head, row) for row in odd_rows(q, n)]
    return [value for value in found if not _is_matrix(q, n, value)]


def _is_matrix(q, n, value):
    return type(value) is tuple and len(value) == n and all(_is_row(q, n, row) for row in value)
