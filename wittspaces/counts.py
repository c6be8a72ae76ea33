"""The numbers of rows with each value, and of totally singular subspaces (points 4.1 and 4.2)."""

from wittspaces.normal import discriminant, invariants, sign
from wittspaces.similar import witt_index
from wittspaces.whole import gauss, power


def _even_counts(q, m, e):
    """The counts for a quadratic space of the rank `2 m` with the sign `e`, without a radical."""
    if m == 0:
        return (1,) + (0,) * (q - 1)
    whole = power(q, 2 * m - 1)
    less = power(q, m - 1)
    return (whole + e * (power(q, m) - less),) + (whole - e * less,) * (q - 1)


def _odd_counts(field, m, d):
    """The counts for a quadratic space of the rank `2 m + 1` with the discriminant `d`, `q` odd, without a radical."""
    whole = power(field.q, 2 * m)
    signed = field.multiply(field.power(field.negative(1), m), d)
    found = [whole]
    for c in range(1, field.q):
        step = power(field.q, m)
        found.append(whole + step if field.is_square(field.multiply(signed, c)) else whole - step)
    return tuple(found)


def _hermitian_counts(field, k):
    """The counts for a hermitian space of the rank `k` without a radical."""
    p = field.p
    if k == 0:
        return (1,) + (0,) * (field.q - 1)
    e = 1 if k % 2 == 0 else -1
    whole = power(p, 2 * k - 1)
    less = power(p, k - 1)
    found = [whole - e * less if field.is_fixed(c) else 0 for c in field.numbers()]
    found[0] = whole + e * (power(p, k) - less)
    return tuple(found)


def _counts_beside_zeros(space, rank, r, s):
    """The counts for a complement of the singular radical."""
    q = space.q
    if space.kind == "alternating":
        return (power(q, rank),) + (0,) * (q - 1)
    if space.kind == "hermitian":
        return _hermitian_counts(space.field, rank)
    if r > s:
        return (power(q, rank),) * q
    if rank % 2 == 1:
        return _odd_counts(space.field, rank // 2, discriminant(space))
    return _even_counts(q, rank // 2, sign(space))


def value_counts(space):
    """The tuple of the numbers of rows with each value."""
    n, r, s, _ = invariants(space)
    factor = power(space.q, s)
    return tuple(factor * count for count in _counts_beside_zeros(space, n - r, r, s))


def _steps(space, w):
    """The tuple of the numbers `A_1, .., A_w` of point 4.2, with the Witt index `w`."""
    n, r, s, _ = invariants(space)
    odd_rank = (n - r) % 2 == 1
    if space.kind == "hermitian":
        return tuple(power(space.field.p, 2 * (w - i) + (3 if odd_rank else 1)) for i in range(1, w + 1))
    more = 1
    if space.kind == "quadratic" and r == s and not odd_rank:
        more = 0 if sign(space) == 1 else 2
    return tuple(power(space.q, w - i + more) for i in range(1, w + 1))


def _counts_of_dimensions(space, w):
    """The numbers of singular subspaces of the dimensions `0, .., w` of a complement of the singular radical."""
    found = [1]
    for i, step in enumerate(_steps(space, w), start=1):
        # Up to each `i` the product is itself such a number, so the division leaves no rest.
        found.append(found[i - 1] * (power(space.q, w - i + 1) - 1) * (step + 1) // (power(space.q, i) - 1))
    return found


def singular_count(space, k):
    """The number of totally singular subspaces of the dimension `k`."""
    s = len(space.singular_radical())
    w = witt_index(space)
    counts = _counts_of_dimensions(space, w)
    total = 0
    # A subspace has a part of the dimension `k - j`, from 0 to `s`, in the singular radical.
    for j in range(max(0, k - s), min(k, w) + 1):
        total = total + counts[j] * power(space.q, j * (s - k + j)) * gauss(s, k - j, space.q)
    return total
