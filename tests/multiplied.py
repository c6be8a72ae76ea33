"""The papers of chapter 10, multiplied out by the words of points 10.2 to 10.6 with the slow arithmetic of the tests.

Of a space only its kind, its `q`, its `n` and its matrix are read.
"""

from helper import MINUS, PLUS, SIZES, TIMES, disguised, normals, pulled, slow_combine, slow_moved, walk
from maps import along, are_independent, drawn_isometry, inverse_of, product_of, times, told, units, value
from wittspaces.space import Space
from words import row_element, slow_multiply


def is_number(q, c):
    return type(c) is int and 0 <= c < q


def is_row(q, n, x):
    return type(x) is tuple and len(x) == n and all(is_number(q, c) for c in x)


def is_table(q, n, rows):
    return type(rows) is tuple and all(is_row(q, n, x) for x in rows)


def is_invertible(q, n, rows):
    return is_table(q, n, rows) and len(rows) == n and are_independent(q, rows)


def in_radical(space, x):
    return not any(product_of(space, x, y) for y in units(space.n))


def parts(paper, word, many):
    """The items of a paper behind its word, or None if it has another form."""
    if type(paper) is not tuple or len(paper) != many + 1 or type(paper[0]) is not str or paper[0] != word:
        return None
    return paper[1:]


def holds_isometry(a, b, paper):
    alike = (a.kind, a.q, a.n) == (b.kind, b.q, b.n)
    if parts(paper, "unlike", 0) is not None:
        return not alike
    if not alike:
        return False
    found = parts(paper, "isometry", 1)
    if found is not None:
        return is_invertible(a.q, a.n, found[0]) and pulled(*told(b), found[0]) == a.matrix
    found = parts(paper, "apart", 2)
    if found is None or not all(is_invertible(a.q, a.n, rows) for rows in found):
        return False
    one, two = pulled(*told(a), found[0]), pulled(*told(b), found[1])
    every = [matrix for _, matrix in normals(a.kind, a.q, a.n)]
    return one in every and two in every and one != two


def holds_extension(space, us, vs, paper):
    q, n = space.q, space.n
    found = parts(paper, "extension", 1)
    if found is not None:
        matrix, = found
        if not is_invertible(q, n, matrix) or pulled(*told(space), matrix) != space.matrix:
            return False
        return all(slow_moved(q, u, matrix, n) == v for u, v in zip(us, vs))
    found = parts(paper, "barrier", 1)
    if found is None or not is_row(q, len(us), found[0]):
        return False
    one, two = (slow_combine(q, rows, found[0], n) for rows in (us, vs))
    return in_radical(space, one) != in_radical(space, two)


def are_apart(space, one, two):
    """Have all rows of the one and all of the other the product 0?"""
    return not any(product_of(space, x, y) or product_of(space, y, x) for x in one for y in two)


def holds_index(space, paper):
    q, n = space.q, space.n
    found = parts(paper, "index", 3)
    if found is None:
        return False
    pairs, rest, zeros = found
    if type(pairs) is not tuple or any(type(pair) is not tuple or len(pair) != 2 for pair in pairs):
        return False
    flat = tuple(x for pair in pairs for x in pair)
    if not is_table(q, n, flat) or not is_table(q, n, rest) or not is_table(q, n, zeros):
        return False
    if not is_invertible(q, n, flat + rest + zeros) or len(rest) > 3:
        return False
    if any(value(space, x) for x in flat) or any(product_of(space, e, f) != 1 for e, f in pairs):
        return False
    for i, pair in enumerate(pairs):
        if not are_apart(space, pair, rest) or not all(are_apart(space, pair, other) for other in pairs[:i]):
            return False
    if any(value(space, x) for x in zeros) or not are_apart(space, zeros, units(n)):
        return False
    return all(value(space, slow_combine(q, rest, c, n)) for c in walk(q, len(rest)) if any(c))


def minus(q, a, b):
    return tuple(PLUS[q][c][MINUS[q][d]] for c, d in zip(a, b))


def holds_sign(space, paper, known=None):
    q, n = space.q, space.n
    # Of the space alone, so a caller may keep it from one paper to the next.
    known = {} if known is None else known
    found = parts(paper, "sign", 3)
    if found is None or space.kind != "quadratic" or n not in (0, 2, 4):
        return False
    # The radical is 0 exactly if the products of the unit rows are an independent table.
    if not are_independent(q, [tuple(product_of(space, x, y) for y in units(n)) for x in units(n)]):
        return False
    sign, z, d = found
    if type(sign) is not int or sign not in (1, -1) or not is_row(q, 2 ** n, z) or not is_number(q, d):
        return False
    if any(c and bin(index).count("1") % 2 for index, c in enumerate(z)):
        return False
    one = (1,) + (0,) * (2 ** n - 1)
    for x in units(n):
        u = row_element(n, x)
        if slow_multiply(space, u, z, known) != slow_multiply(space, minus(q, one, z), u, known):
            return False
    if slow_multiply(space, z, z, known) != minus(q, z, (d,) + (0,) * (2 ** n - 1)):
        return False
    if PLUS[q][PLUS[q][d][d]][PLUS[q][d][d]] == 1:
        return False
    has_root = any(PLUS[q][PLUS[q][TIMES[q][t][t]][MINUS[q][t]]][d] == 0 for t in range(q))
    return has_root == (sign == 1)


def holds_factors(isometry, paper):
    space = isometry.space
    q, n = space.q, space.n
    found = parts(paper, "factors", 1)
    if found is None or space.kind == "hermitian" or type(found[0]) is not tuple:
        return False
    matrix = units(n)
    for item in found[0]:
        if space.kind == "quadratic":
            if not is_row(q, n, item) or value(space, item) == 0:
                return False
            step = along(space, item, MINUS[q][inverse_of(q, value(space, item))])
        else:
            if type(item) is not tuple or len(item) != 2 or not is_number(q, item[0]) or not is_row(q, n, item[1]):
                return False
            if item[0] == 0 or not any(item[1]):
                return False
            step = along(space, item[1], item[0])
        matrix = times(q, matrix, step, n)
    return matrix == isometry.matrix


# What the papers are about.

def every_space(source, most=4, forms=None):
    """A space of each kind, field and normal form up to a dimension, in drawn bases."""
    for kind in ("alternating", "quadratic", "hermitian"):
        for q in SIZES if kind != "hermitian" else (4, 9):
            if forms is None or (kind, q) in forms:
                for n in range(most + 1):
                    for _, matrix in normals(kind, q, n):
                        yield Space(kind, q, disguised(source, kind, q, matrix))


def goes_on(space, us, vs):
    """Does the partial isometry carry the common part with the radical onto that of the other one? Walked."""
    q, n = space.q, space.n
    return all(
        in_radical(space, slow_combine(q, us, c, n)) == in_radical(space, slow_combine(q, vs, c, n))
        for c in walk(q, len(us))
    )


def images(source, space, k):
    """Some independent rows and their images under a drawn isometry."""
    q, n = space.q, space.n
    matrix = drawn_isometry(source, space)
    us = source.rows(q, n, k)
    while not are_independent(q, us):
        us = source.rows(q, n, k)
    return us, times(q, us, matrix, n)


def barred(source, space):
    """A partial isometry that no isometry extends, or None if none was found."""
    q, n = space.q, space.n
    rows = [x for x in walk(q, n) if any(x)] if q ** n < 800 else [x for x in source.rows(q, n, 800) if any(x)]
    inside = [x for x in rows if in_radical(space, x)]
    inside += [x for x in space.radical() if x not in inside]
    outside = [x for x in rows if not in_radical(space, x)]
    found = [(u, v) for u in inside[:20] for v in outside[:60] if value(space, u) == value(space, v)]
    if not found:
        return None
    u, v = found[source.below(len(found))]
    return ((u,), (v,)) if source.below(2) else ((v,), (u,))


# Papers spoilt.

WORDS = ("isometry", "apart", "unlike", "extension", "barrier", "index", "sign", "factors")


def spoilt(q, value_):
    """The values that differ from a nested tuple in one place."""
    if type(value_) is str:
        yield from [word for word in (*WORDS, "", value_ + "s", value_[:-1]) if word != value_]
        yield from (None, True, 0, (value_,), [value_])
    elif type(value_) is int:
        yield from [c for c in range(-2, q + 2) if c != value_]
        # True and False are no numbers, though they are equal to 1 and 0.
        yield from (bool(value_), None, str(value_), (value_,), [value_])
    else:
        yield list(value_)
        yield from (value_ + (0,), value_ + ((),), (value_,), (), None)
        if value_:
            yield from (value_[:-1], value_[1:], value_ + value_[-1:], value_[::-1], value_ + (value_[0],))
        for i, item in enumerate(value_):
            for other in spoilt(q, item):
                yield value_[:i] + (other,) + value_[i + 1:]


def some_spoilt(source, q, paper, most):
    """At most so many of these, drawn."""
    found = list(spoilt(q, paper))
    if len(found) <= most:
        return found
    return [found[source.below(len(found))] for _ in range(most)]
