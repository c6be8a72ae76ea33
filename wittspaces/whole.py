"""Whole numbers: powers and the counts of spaces and of matrices (point 1.7)."""


def is_integer(value):
    """True if the value is an integer and not True or False."""
    return isinstance(value, int) and not isinstance(value, bool)


def power(a, k):
    """The integer `a` to the power `k`, from 0 on."""
    result = 1
    while k > 0:
        if k % 2 == 1:
            result = result * a
        a = a * a
        k = k // 2
    return result


def gauss(n, k, q):
    """The number of spaces of the dimension `k` in a space of the dimension `n`."""
    if k < 0 or k > n:
        return 0
    result = 1
    for i in range(1, k + 1):
        # Up to each `i` the product is the Gauss number of `n` and `i`, so the division leaves no rest.
        result = result * (power(q, n - i + 1) - 1) // (power(q, i) - 1)
    return result


def invertible_count(n, q):
    """The number of matrices of the size `n` with an inverse."""
    whole = power(q, n)
    result = 1
    for i in range(n):
        result = result * (whole - power(q, i))
    return result
