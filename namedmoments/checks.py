"""What several functions ask of their arguments."""

from namedmoments.errors import AllNought, NoFraction, TooMany
from namedmoments.ratios import common_bottom, is_fraction

MOST_MULTIPLE = 4
FARTHEST = 1000


def check_some(curve):
    """Raise AllNought if a curve is nought everywhere."""
    if len(curve.terms) == 0:
        raise AllNought()


def rate_bottom(curves):
    """The least common multiple of the bottoms of all q of a list of curves."""
    return common_bottom([term[2] for curve in curves for term in curve.terms])


def check_bottoms(curves):
    """Raise TooMany if the bottoms of a list of curves have none but a great multiple in common."""
    if rate_bottom(curves) > MOST_MULTIPLE:
        raise TooMany(MOST_MULTIPLE)


def is_near(thing, farthest):
    """Whether a thing is a fraction from -farthest to farthest."""
    if not is_fraction(thing):
        return False
    top, bottom = thing
    return abs(top) <= farthest * bottom


def check_near(thing):
    """Raise NoFraction unless a thing is a fraction from -1000 to 1000."""
    if not is_near(thing, FARTHEST):
        raise NoFraction()
