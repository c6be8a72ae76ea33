"""Papers that show results, for the checker (points 10.2 to 10.6)."""

from wittspaces.errors import Refused
from wittspaces.extension import barrier, extension
from wittspaces.normal import normal_form, sign
from wittspaces.pairing import pairing
from wittspaces.similar import find_isometry, witt_basis
from wittspaces.turns import reflections_of, transvections_of

MOST_SIGNED = 4


def isometry_paper(a, b):
    """A paper that shows whether the spaces are isometric."""
    if a.kind != b.kind or a.q != b.q or a.n != b.n:
        return ("unlike",)
    matrix = find_isometry(a, b)
    if matrix is not None:
        return "isometry", matrix
    return "apart", normal_form(a)[1], normal_form(b)[1]


def extension_paper(space, us, vs):
    """A paper that shows whether the partial isometry has an extension."""
    weights = barrier(space, us, vs)
    if weights is not None:
        return "barrier", weights
    return "extension", extension(space, us, vs).matrix


def index_paper(space):
    """A paper that shows the Witt index."""
    pairs, rest, zeros = witt_basis(space)
    return "index", pairs, rest, zeros


def sign_paper(space):
    """A paper that shows the sign of a quadratic space of the dimension 0, 2 or 4 without radical."""
    if space.kind != "quadratic":
        raise Refused("kind")
    if space.n % 2 == 1 or space.n > MOST_SIGNED:
        raise Refused("even")
    z, d = pairing(space)
    return "sign", sign(space), z, d


def factors_paper(isometry):
    """A paper that shows an isometry as a product of reflections or of transvections."""
    if isometry.space.kind == "alternating":
        return "factors", transvections_of(isometry)
    return "factors", reflections_of(isometry)
