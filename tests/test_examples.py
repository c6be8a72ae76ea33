"""The examples of the interface, in its order."""

import doctest
import unittest

from wittspaces.errors import Refused
from wittspaces.isometry import Isometry
from wittspaces.space import Space

EXAMPLES = """
>>> from wittspaces.field import Field
>>> Field(9).multiply(3, 3)
2

>>> from wittspaces.field import Field
>>> from wittspaces.linear import span
>>> span(Field(4), ((2, 0, 1), (0, 0, 3)), 3)
((1, 0, 0), (0, 0, 1))

>>> from wittspaces.space import Space
>>> space = Space("quadratic", 2, ((1, 1), (0, 1)))
>>> [space.value(x) for x in space.rows()]
[0, 1, 1, 1]

>>> from wittspaces.build import hyperbolic
>>> str(hyperbolic("alternating", 3, 1))
'a 3 2: 0 1; 2 0'

>>> from wittspaces.normal import invariants, normal_form
>>> from wittspaces.space import Space
>>> str(normal_form(Space("quadratic", 3, ((2, 0), (0, 2))))[0])
'q 3 2: 1 0; 0 1'

>>> invariants(Space("quadratic", 2, ((1, 0), (0, 1))))
(2, 2, 1, 0)

>>> from wittspaces.build import hyperbolic
>>> from wittspaces.similar import witt_index
>>> witt_index(hyperbolic("hermitian", 9, 2))
2

>>> from wittspaces.build import hyperbolic
>>> from wittspaces.counts import singular_count
>>> from wittspaces.polar import points
>>> points(hyperbolic("quadratic", 3, 1))
((0, 1), (1, 0))

>>> singular_count(hyperbolic("alternating", 2, 2), 2)
15

>>> from wittspaces.kinds import reflection
>>> from wittspaces.space import Space
>>> reflection(Space("quadratic", 2, ((0, 1), (0, 0))), (1, 1)).matrix
((0, 1), (1, 0))

>>> from wittspaces.groups import group_order
>>> from wittspaces.space import Space
>>> group_order(Space("alternating", 2, ((0, 1), (1, 0))))
6

>>> from wittspaces.extension import extends
>>> from wittspaces.space import Space
>>> space = Space("alternating", 2, ((0, 1, 0), (1, 0, 0), (0, 0, 0)))
>>> extends(space, ((1, 0, 0),), ((0, 1, 1),))
True

>>> from wittspaces.extension import barrier
>>> from wittspaces.space import Space
>>> barrier(Space("alternating", 2, ((0, 1, 0), (1, 0, 0), (0, 0, 0))), ((1, 0, 0),), ((0, 0, 1),))
(1,)

>>> from wittspaces.orbits import orbit_count
>>> from wittspaces.space import Space
>>> orbit_count(Space("quadratic", 2, ((0, 1), (0, 0))))
3

>>> from wittspaces.build import hyperbolic
>>> from wittspaces.clifford import Clifford
>>> algebra = Clifford(hyperbolic("quadratic", 3, 1))
>>> algebra.product_of([(0, 1), (1, 0)])
(1, 0, 0, 2)

>>> from wittspaces.pairing import is_pairing
>>> is_pairing(hyperbolic("quadratic", 3, 1), (0, 0, 0, 1), 0)
True

>>> from wittspaces.build import hyperbolic
>>> from wittspaces.families import families
>>> families(hyperbolic("quadratic", 3, 1))
((((0, 1),),), (((1, 0),),))

>>> from wittspaces.kinds import reflection
>>> from wittspaces.space import Space
>>> from wittspaces.turns import dickson, spinor_norm
>>> f = reflection(Space("quadratic", 3, ((1, 0), (0, 1))), (1, 1))
>>> (dickson(f), spinor_norm(f))
(1, -1)

>>> from wittspaces.witt import sum_table
>>> sum_table("quadratic", 3)
((0, 1, 2, 3), (1, 3, 0, 2), (2, 0, 3, 1), (3, 2, 1, 0))

>>> from wittspaces.build import hyperbolic
>>> from wittspaces.related import sign_counts
>>> sign_counts(hyperbolic("alternating", 2, 2))
(10, 6)

>>> from wittspaces.console import Console
>>> console = Console()
>>> console.enter("let a = q 3 2: 1 0; 0 2").text
'q 3 2: 1 0; 0 2'

>>> console.enter("sign a").text
'1'

>>> console.enter("extends a 10 20").text
'yes'

>>> console.enter("value a 11").text
'0'
"""


class Examples(unittest.TestCase):
    def test_examples(self):
        runner = doctest.DocTestRunner(verbose=False)
        runner.run(doctest.DocTestParser().get_doctest(EXAMPLES, {}, "interface", None, None))
        self.assertEqual(runner.failures, 0)
        self.assertEqual(runner.tries, 63)

    def test_example_of_an_error(self):
        self.assertRaises(Refused, Isometry, Space("quadratic", 3, ((1,),)), ((0,),))


if __name__ == "__main__":
    unittest.main()
