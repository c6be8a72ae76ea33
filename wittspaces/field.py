"""The fields with 2, 3, 4, 5, 7 and 9 numbers (points 1.1 to 1.3)."""

from wittspaces.errors import Malformed, Refused
from wittspaces.whole import is_integer

CHARACTERISTICS = {2: 2, 3: 3, 4: 2, 5: 5, 7: 7, 9: 3}

# For `q = p p` the number `a + p b` stands for `a + b t`; here `t t` is told as such a pair.
# In the other fields `b` is always 0, so any pair does.
SQUARES_OF_T = {4: (1, 1), 9: (2, 0)}


def _sum_of(p, a, b):
    """The sum of two numbers."""
    return (a + b) % p + (a // p + b // p) % p * p


def _product_of(p, square, a, b):
    """The product of two numbers, `square` the pair that `t t` stands for."""
    high_a, low_a = divmod(a, p)
    high_b, low_b = divmod(b, p)
    both = high_a * high_b
    low = low_a * low_b + both * square[0]
    high = low_a * high_b + high_a * low_b + both * square[1]
    return low % p + high % p * p


class Field:
    """The field with `q` numbers, `0, .., q - 1`, of the characteristic `p`.

    `sums` and `products` are the tables of all sums and products.
    """

    def __init__(self, q):
        if not is_integer(q) or q not in CHARACTERISTICS:
            raise Malformed("no size of a field")
        p = CHARACTERISTICS[q]
        square = SQUARES_OF_T.get(q, (0, 0))
        self.q = q
        self.p = p
        self.sums = tuple(tuple(_sum_of(p, a, b) for b in range(q)) for a in range(q))
        self.products = tuple(tuple(_product_of(p, square, a, b) for b in range(q)) for a in range(q))

    def __eq__(self, other):
        return isinstance(other, Field) and self.q == other.q

    def is_number(self, value):
        """True if the value is a number of the field."""
        return is_integer(value) and 0 <= value < self.q

    def numbers(self):
        """The ascending tuple of the numbers."""
        return tuple(range(self.q))

    def add(self, a, b):
        """The sum."""
        return self.sums[a][b]

    def subtract(self, a, b):
        """The difference."""
        return self.add(a, self.negative(b))

    def negative(self, a):
        """The number whose sum with `a` is 0."""
        return self.sums[a].index(0)

    def multiply(self, a, b):
        """The product."""
        return self.products[a][b]

    def inverse(self, a):
        """The number whose product with `a` is 1."""
        if a == 0:
            raise Refused("zero")
        return self.products[a].index(1)

    def power(self, a, k):
        """The power with the exponent `k`, from 0 on."""
        result = 1
        while k > 0:
            if k % 2 == 1:
                result = self.multiply(result, a)
            a = self.multiply(a, a)
            k = k // 2
        return result

    def mirrored(self, a):
        """The conjugate."""
        if self.q == self.p:
            return a
        return self.power(a, self.p)

    def is_fixed(self, a):
        """True if `a` is its own conjugate."""
        return self.mirrored(a) == a

    def trace(self, a):
        """The sum of `a` and its conjugate."""
        return self.add(a, self.mirrored(a))

    def norm(self, a):
        """The product of `a` and its conjugate."""
        return self.multiply(a, self.mirrored(a))

    def _roots(self, a):
        """The ascending list of the numbers whose square is `a`."""
        return [x for x in self.numbers() if self.multiply(x, x) == a]

    def is_square(self, a):
        """True if `a` is the square of a number."""
        return len(self._roots(a)) > 0

    def root(self, a):
        """The least number whose square is `a`."""
        roots = self._roots(a)
        if len(roots) == 0:
            raise Refused("square")
        return roots[0]

    def least_nonsquare(self):
        """The least number that is no square, in odd characteristic."""
        if self.p == 2:
            raise Refused("two")
        return [a for a in self.numbers() if not self.is_square(a)][0]

    def half_root(self, k):
        """The least number `x` with `x x + x = k`, or None, in characteristic 2."""
        if self.p != 2:
            raise Refused("odd")
        for x in self.numbers():
            if self.add(self.multiply(x, x), x) == k:
                return x
        return None

    def least_without_root(self):
        """The least `k` for which no number `x` has `x x + x = k`, in characteristic 2."""
        return [k for k in self.numbers() if self.half_root(k) is None][0]
