"""What several tests share: slow arithmetic by the words of the document, walks, samples and odd values."""

from itertools import combinations, product

from wittspaces.errors import NoText, Refused
from wittspaces.field import Field

SIZES = (2, 3, 4, 5, 7, 9)
KINDS = ("alternating", "quadratic", "hermitian")
FORMS = [("alternating", q) for q in SIZES] + [("quadratic", q) for q in SIZES] + [("hermitian", 4), ("hermitian", 9)]


def nested(wrap, depth):
    value = wrap([1])
    for _ in range(depth - 1):
        value = wrap([value])
    return value


def odd_values():
    """Values that are no numbers, sizes, rows or tables of anything."""
    return [
        True, False, None, "", "0", "1", "quadratic", -1, -7, 10 ** 40, -(10 ** 40), [], [0], [True], [[0]], (True,),
        (None,), ("0",), ((True,),), ([0],), [(0,)], (((0,),),), nested(list, 60), nested(tuple, 60), Field(2),
        Field(9), (Field(3),), Refused("zero"), NoText(0), (10 ** 40,), (-1,), ((-1,),),
    ]


class Source:
    """Numbers that look random, the same ones in every run."""

    def __init__(self, seed):
        self.state = seed * 2654435761 + 12345

    def below(self, n):
        self.state = (self.state * 6364136223846793005 + 1442695040888963407) % 2 ** 64
        return (self.state >> 33) % n

    def row(self, q, n):
        return tuple(self.below(q) for _ in range(n))

    def rows(self, q, n, k):
        return tuple(self.row(q, n) for _ in range(k))


# The arithmetic of the six fields, by the words of point 1.1.

def _pair_product(q, a, b):
    if q == 4:
        a0, a1, b0, b1 = a % 2, a // 2, b % 2, b // 2
        # t t = t + 1
        return (a0 * b0 + a1 * b1) % 2 + 2 * ((a0 * b1 + a1 * b0 + a1 * b1) % 2)
    a0, a1, b0, b1 = a % 3, a // 3, b % 3, b // 3
    # i i = 2, which is -1
    return (a0 * b0 - a1 * b1) % 3 + 3 * ((a0 * b1 + a1 * b0) % 3)


def _plus(q, a, b):
    if q == 4:
        return a ^ b
    if q == 9:
        return (a % 3 + b % 3) % 3 + 3 * ((a // 3 + b // 3) % 3)
    return (a + b) % q


def _times(q, a, b):
    return _pair_product(q, a, b) if q in (4, 9) else a * b % q


PLUS = {q: [[_plus(q, a, b) for b in range(q)] for a in range(q)] for q in SIZES}
TIMES = {q: [[_times(q, a, b) for b in range(q)] for a in range(q)] for q in SIZES}
MINUS = {q: [PLUS[q][a].index(0) for a in range(q)] for q in SIZES}
MIRROR = {q: list(range(q)) for q in SIZES}
MIRROR[4] = [TIMES[4][a][a] for a in range(4)]
MIRROR[9] = [TIMES[9][a][TIMES[9][a][a]] for a in range(9)]


def total(q, numbers):
    result = 0
    for c in numbers:
        result = PLUS[q][result][c]
    return result


def slow_dot(q, v, w):
    return total(q, [TIMES[q][a][b] for a, b in zip(v, w)])


def slow_add(q, v, w):
    return tuple(PLUS[q][a][b] for a, b in zip(v, w))


def slow_scaled(q, v, c):
    return tuple(TIMES[q][c][a] for a in v)


def slow_combine(q, rows, weights, width):
    result = (0,) * width
    for row, c in zip(rows, weights):
        result = slow_add(q, result, slow_scaled(q, row, c))
    return result


def slow_moved(q, v, rows, width):
    return slow_combine(q, rows, v, width)


def walk(q, n):
    """All rows of the length n, ascending."""
    return list(product(range(q), repeat=n))


def span_set(q, rows, width):
    """The set of all sums of multiples of the rows."""
    found = {(0,) * width}
    for row in rows:
        if row not in found:
            multiples = [slow_scaled(q, row, c) for c in range(q)]
            found = {slow_add(q, v, multiple) for v in found for multiple in multiples}
    return found


def independent(q, rows, width):
    return len(span_set(q, rows, width)) == q ** len(rows)


def looks_reduced(rows):
    """The words of point 1.5 for tuples of numbers."""
    pivots = []
    for row in rows:
        if not any(row):
            return False
        pivot = [c != 0 for c in row].index(True)
        if row[pivot] != 1 or (pivots and pivot <= pivots[-1]):
            return False
        pivots.append(pivot)
    return all(rows[i][p] == (1 if pivots[i] == p else 0) for i in range(len(rows)) for p in pivots)


def tables(q, n, k):
    """All reduced tables of the width n with k rows."""
    found = []
    for pivots in combinations(range(n), k):
        free = [(i, j) for i, p in enumerate(pivots) for j in range(p + 1, n) if j not in pivots]
        for items in product(range(q), repeat=len(free)):
            rows = [[1 if j == p else 0 for j in range(n)] for p in pivots]
            for (i, j), c in zip(free, items):
                rows[i][j] = c
            found.append(tuple(map(tuple, rows)))
    return found


def table_of(q, rows, width):
    """The reduced table of a set of rows that is a space, by walking it."""
    found = []
    for place in range(width):
        heads = [v for v in rows if v[place] == 1 and not any(v[:place])]
        if heads:
            found.append(heads)
    pivots = [[c != 0 for c in heads[0]].index(True) for heads in found]
    return tuple(
        [v for v in heads if all(v[p] == 0 for j, p in enumerate(pivots) if j != i)][0] for i, heads in enumerate(found)
    )


def slow_determinant(q, matrix):
    """By the first row."""
    if not matrix:
        return 1
    result = 0
    for j, c in enumerate(matrix[0]):
        part = TIMES[q][c][slow_determinant(q, [row[:j] + row[j + 1:] for row in matrix[1:]])]
        result = PLUS[q][result][part if j % 2 == 0 else MINUS[q][part]]
    return result


def invertibles(q, n):
    """All matrices of the size n with an inverse."""
    rows = walk(q, n)
    return [m for m in product(rows, repeat=n) if slow_determinant(q, m) != 0]


def some_invertible(source, q, n):
    while True:
        matrix = source.rows(q, n, n)
        if slow_determinant(q, matrix) != 0:
            return matrix


# Forms, by the words of point 2.1.

def slow_sum(kind, q, matrix, x, y):
    """The sum of all x_i A_ij y_j, with conjugates of the y_j for a hermitian form."""
    n = len(matrix)
    if kind == "hermitian":
        y = [MIRROR[q][c] for c in y]
    return total(q, [TIMES[q][TIMES[q][x[i]][matrix[i][j]]][y[j]] for i in range(n) for j in range(n)])


def slow_value(kind, q, matrix, x):
    return 0 if kind == "alternating" else slow_sum(kind, q, matrix, x, x)


def slow_product(kind, q, matrix, x, y):
    if kind != "quadratic":
        return slow_sum(kind, q, matrix, x, y)
    both = slow_value(kind, q, matrix, slow_add(q, x, y))
    less = PLUS[q][slow_value(kind, q, matrix, x)][slow_value(kind, q, matrix, y)]
    return PLUS[q][both][MINUS[q][less]]


def pulled(kind, q, matrix, rows):
    """The matrix of the form restricted to the rows."""
    def item(i, j):
        if kind != "quadratic" or i < j:
            return slow_product(kind, q, matrix, rows[i], rows[j])
        return slow_value(kind, q, matrix, rows[i]) if i == j else 0
    return tuple(tuple(item(i, j) for j in range(len(rows))) for i in range(len(rows)))


def _filled(n, items):
    return tuple(tuple(items.get((i, j), 0) for j in range(n)) for i in range(n))


def _least_nonsquare(q):
    return min(set(range(q)) - {TIMES[q][x][x] for x in range(q)})


def _least_without_root(q):
    return min(set(range(q)) - {PLUS[q][TIMES[q][x][x]][x] for x in range(q)})


def normals(kind, q, n):
    """All normal spaces of the dimension n as pairs of invariants and matrix, by the words of point 3.1."""
    found = []
    for rank in range(n + 1):
        r = n - rank
        planes = {(2 * i, 2 * i + 1): 1 for i in range(rank // 2)}
        ones = {(i, i): 1 for i in range(rank)}
        if kind == "alternating" and rank % 2 == 0:
            back = {(j, i): MINUS[q][1] for i, j in planes}
            found.append(((n, r, r, 0), _filled(n, {**planes, **back})))
        if kind == "hermitian":
            found.append(((n, r, r, 0), _filled(n, ones)))
        if kind == "quadratic" and q % 2 == 1:
            found.append(((n, r, r, 1), _filled(n, ones)))
            if rank:
                found.append(((n, r, r, -1), _filled(n, {**ones, (rank - 1, rank - 1): _least_nonsquare(q)})))
        if kind == "quadratic" and q % 2 == 0 and rank % 2 == 0:
            found.append(((n, r, r, 1), _filled(n, planes)))
            if rank:
                last = {(rank - 2, rank - 2): 1, (rank - 1, rank - 1): _least_without_root(q)}
                found.append(((n, r, r, -1), _filled(n, {**planes, **last})))
            if r:
                found.append(((n, r, r - 1, 0), _filled(n, {**planes, (rank, rank): 1})))
    return found


def disguised(source, kind, q, matrix):
    """The matrix of the same form in some other basis."""
    return pulled(kind, q, matrix, some_invertible(source, q, len(matrix)))


def samples(source, kind, q, most, each=1):
    """Pairs of invariants and matrix: each normal form up to the dimension `most`, in `each` other bases."""
    return [
        (numbers, disguised(source, kind, q, matrix))
        for n in range(most + 1) for numbers, matrix in normals(kind, q, n) for _ in range(each)
    ]


def all_matrices(kind, q, n):
    """The matrices of all spaces of a kind."""
    fixed = [c for c in range(q) if MIRROR[q][c] == c]
    above = [(i, j) for i in range(n) for j in range(i + 1, n)]
    found = []
    for items in product(range(q), repeat=len(above)):
        upper = dict(zip(above, items))
        if kind == "alternating":
            found.append(_filled(n, {**upper, **{(j, i): MINUS[q][c] for (i, j), c in upper.items()}}))
            continue
        lower = {(j, i): MIRROR[q][c] for (i, j), c in upper.items()} if kind == "hermitian" else {}
        for ends in product(fixed if kind == "hermitian" else range(q), repeat=n):
            found.append(_filled(n, {**upper, **lower, **{(i, i): c for i, c in enumerate(ends)}}))
    return found


def most_dimension(q, rows):
    """The greatest dimension, up to 6, of a space with at most so many rows."""
    n = 0
    while n < 6 and q ** (n + 1) <= rows:
        n += 1
    return n
