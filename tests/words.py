"""Products in the Clifford algebra by the relations of point 7.1, one word of unit rows after the other."""

from helper import MINUS, PLUS, TIMES, slow_add, slow_scaled
from maps import inverse_of, product_of, units


def of_word(space, word, known):
    """The product of the unit rows with the indexes of the word, by the relations of point 7.1: a dict of numbers."""
    if word in known:
        return known[word]
    q, matrix = space.q, space.matrix
    found = {}
    for at in range(len(word) - 1):
        i, j = word[at], word[at + 1]
        before, behind = word[:at], word[at + 2:]
        if i >= j:
            if i == j:
                parts = [(matrix[i][i], before + behind)]
            else:
                # e_i e_j is the product of both rows less e_j e_i.
                parts = [(product_of(space, units(space.n)[i], units(space.n)[j]), before + behind),
                         (MINUS[q][1], before + (j, i) + behind)]
            for c, shorter in parts:
                for index, d in of_word(space, shorter, known).items():
                    found[index] = PLUS[q][found.get(index, 0)][TIMES[q][c][d]]
            break
    else:
        found = {sum(2 ** i for i in word): 1}
    known[word] = found
    return found


def members(index):
    return tuple(i for i in range(5) if index >> i & 1)


def slow_multiply(space, a, b, known):
    q, size = space.q, len(a)
    items = [0] * size
    for one in range(size):
        for two in range(size):
            both = TIMES[q][a[one]][b[two]]
            if both:
                for index, c in of_word(space, members(one) + members(two), known).items():
                    items[index] = PLUS[q][items[index]][TIMES[q][both][c]]
    return tuple(items)


def row_element(n, x):
    """The element for a row of the length n."""
    items = [0] * 2 ** n
    for i, c in enumerate(x):
        items[2 ** i] = c
    return tuple(items)


def slow_product(space, rows, known):
    """The product of the rows in the Clifford algebra, in order."""
    result = (1,) + (0,) * (2 ** space.n - 1)
    for row in rows:
        result = slow_multiply(space, result, row_element(space.n, row), known)
    return result


def other_pairings(space, z, d):
    """All pairings of the space, told by point 7.4 from one of them."""
    q = space.q
    one = (1,) + (0,) * (len(z) - 1)
    for c in range(q):
        if q in (2, 4):
            yield slow_add(q, z, slow_scaled(q, one, c)), PLUS[q][PLUS[q][d][c]][TIMES[q][c][c]]
        elif c != 0:
            half = inverse_of(q, 2)
            turned = slow_scaled(q, slow_add(q, one, slow_scaled(q, z, MINUS[q][2])), c)
            changed = slow_scaled(q, slow_add(q, one, slow_scaled(q, turned, MINUS[q][1])), half)
            four = PLUS[q][2][2]
            worth = TIMES[q][TIMES[q][c][c]][PLUS[q][1][MINUS[q][TIMES[q][four][d]]]]
            yield changed, TIMES[q][PLUS[q][1][MINUS[q][worth]]][inverse_of(q, four)]
