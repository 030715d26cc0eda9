"""The moments at which a curve is nought [4.2]."""

from namedmoments.checks import check_bottoms, check_some
from namedmoments.common import common, quotient
from namedmoments.finding import nought_places
from namedmoments.moments import moment_of, place_from
from namedmoments.places import is_origin, turns_within
from namedmoments.signs import order_at_nought


def noughts(curve):
    """The ascending list of Moments that name all moments at which a curve is nought."""
    return [moment_of(place) for place in nought_places(curve)]


def times_nought(curve, moment):
    """How many of a curve, its slope, the slope of this, .. are nought at a moment ahead of the first that is not."""
    check_some(curve)
    check_bottoms([curve, moment.curve])
    if is_origin(place_from(moment)):
        return order_at_nought(curve)
    # what divides the moment's plain curve is nought there once at most
    many = 0
    shared = common(curve, moment.curve)
    while turns_within(shared, moment.low, moment.high):
        many += 1
        curve = quotient(curve, shared)
        shared = common(curve, shared)
    return many


def most_noughts(curve):
    """How many noughts a curve has at most, by how many t stand beside each of its q."""
    check_some(curve)
    greatest = {}
    for _, k, q in curve.terms:
        greatest[q] = max(k, greatest.get(q, 0))
    return sum([k + 1 for k in greatest.values()]) - 1
