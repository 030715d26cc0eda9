"""Curves that have nothing in common [2.3]."""

from namedmoments.checks import check_some, rate_bottom
from namedmoments.common import common
from namedmoments.curves import Curve, plus, times
from namedmoments.grids import curve_of, grid_of
from namedmoments.multiples import grid_multiples
from namedmoments.ratios import NIL, UNIT, divided, negated


def apart(one, other):
    """A triple (a, b, r): a times one and b times other come to a polynomial r; or None."""
    check_some(one)
    check_some(other)
    if common(one, other).terms != ((UNIT, 0, NIL),):
        return None
    bottom = rate_bottom([one, other])
    first, c, q = grid_of(one, bottom)
    second, d, p = grid_of(other, bottom)
    a, b, r = grid_multiples(first, second)
    return (
        curve_of(a, bottom, divided(UNIT, c), negated(q)),
        curve_of(b, bottom, divided(UNIT, d), negated(p)),
        curve_of(r, bottom, UNIT, NIL),
    )


def is_apart(one, other, thing):
    """Whether a thing is a triple of curves such as apart tells."""
    check_some(one)
    check_some(other)
    if not isinstance(thing, tuple) or len(thing) != 3:
        return False
    if not all([isinstance(part, Curve) for part in thing]):
        return False
    a, b, r = thing
    return has_no_rate(r) and plus(times(a, one), times(b, other)) == r


def has_no_rate(curve):
    """Whether a curve is not nought everywhere and has no q but 0."""
    if len(curve.terms) == 0:
        return False
    return curve.terms[0][2] == NIL and curve.terms[-1][2] == NIL
