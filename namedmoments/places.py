"""Moments as places, which are known ever more closely.

A place is a triple (curve, drawn, stretch): the moment in the stretch [narrowing] of the drawn
curve [worths], of a plain curve that is nought there.
"""

from namedmoments.common import common
from namedmoments.curves import at_nought, gathered
from namedmoments.narrowing import narrowed
from namedmoments.ratios import NIL, UNIT, added, less, negated, sign_of
from namedmoments.worths import drawn_curve, sign_there, stretch_sign

# as close as most places are told apart, and as close as a curve is asked whether it is nought there
SOON = 24
CLOSE = 64


def place_of(curve, low, high):
    """The place of the moment that a plain curve has between two fractions."""
    drawn = drawn_curve(curve)
    return (curve, drawn, (low, high, sign_there(drawn, low)))


def place_at(number):
    """The place of a fraction."""
    curve = gathered([(UNIT, 1, NIL), (negated(number), 0, NIL)])
    return (curve, drawn_curve(curve), (added(number, (-1, 1)), added(number, UNIT), -1))


def closer(place, bits):
    """The same place, the ends of its stretch at most 2 ^ -bits apart."""
    curve, drawn, stretch = place
    return (curve, drawn, narrowed(drawn, stretch, bits))


def cut_at(place, number):
    """A place, its stretch cut at a fraction at which its curve is not nought, if that is inside."""
    curve, drawn, (low, high, ahead) = place
    if not less(low, number) or not less(number, high):
        return place
    if sign_there(drawn, number) == ahead:
        return (curve, drawn, (number, high, ahead))
    return (curve, drawn, (low, number, ahead))


def is_origin(place):
    """Whether a place is the moment 0."""
    low, high, _ = place[2]
    return low[0] < 0 and high[0] > 0 and at_nought(place[0]) == NIL


def side_of(one, other):
    """-1 or 1 if the stretch of one place is all ahead of the other's or all behind it, or else 0."""
    if not less(other[2][0], one[2][1]):
        return -1
    return 0 if less(one[2][0], other[2][1]) else 1


def told_apart(one, other):
    """A triple (order, one, other): as the first place is ahead of the other one, the same, or behind it.

    If the order is not 0, the stretches of both, now closer, have no more than an end in common.
    The bottoms of both curves must not come to too much.
    """
    bits = SOON
    while True:
        order = side_of(one, other)
        if order != 0:
            return (order, one, other)
        one, other = closer(one, bits), closer(other, bits)
        order = side_of(one, other)
        if order == 0 and bits == SOON and is_same(one, other):
            return (0, one, other)
        bits = 2 * bits


def is_same(one, other):
    """Whether two places, whose stretches have some of it in common, are one moment."""
    origins = (is_origin(one), is_origin(other))
    if True in origins:
        return False not in origins
    # what is nought in the stretch in common is nought in both
    low, high, _ = shared_part(one, other)[2]
    return turns_within(common(one[0], other[0]), low, high)


def shared_part(one, other):
    """The first place, cut to what its stretch has in common with that of the other one."""
    curve, drawn, (low, high, ahead) = one
    if less(low, other[2][0]):
        low = other[2][0]
    if less(other[2][1], high):
        high = other[2][1]
    return (curve, drawn, (low, high, ahead))


def turns_within(curve, low, high):
    """Whether a curve, not nought everywhere, has unlike signs at two fractions."""
    drawn = drawn_curve(curve)
    return sign_there(drawn, low) != sign_there(drawn, high)


def sign_in(curve, place):
    """The sign of a curve at a place; the bottoms of both curves must not come to too much."""
    if len(curve.terms) == 0:
        return 0
    if is_origin(place):
        return sign_of(at_nought(curve)[0])
    drawn = drawn_curve(curve)
    place = cut_at(place, NIL)
    asked = False
    bits = SOON
    while True:
        place = closer(place, bits)
        low, high, _ = place[2]
        sign = stretch_sign(drawn, low, high, CLOSE + 2 * bits)
        if sign != 0:
            return sign
        if not asked and bits >= CLOSE:
            asked = True
            if turns_within(common(curve, place[0]), low, high):
                return 0
        bits = 2 * bits


def ascending(lists):
    """One ascending list of pairs (place, marks), each place once, of several ascending ones of such.

    A place that is in several of them, by whatever curves, has the marks of all of them.
    """
    found = []
    for places in lists:
        found = merged(found, places)
    return found


def merged(first, second):
    """The same of two lists."""
    heads = (list(reversed(first)), list(reversed(second)))
    found = []
    while len(heads[0]) > 0 and len(heads[1]) > 0:
        one, marks = heads[0].pop()
        other, more_marks = heads[1].pop()
        order, one, other = told_apart(one, other)
        if order == 0:
            found.append((shared_part(one, other), marks + more_marks))
        elif order < 0:
            found.append((one, marks))
            heads[1].append((other, more_marks))
        else:
            found.append((other, more_marks))
            heads[0].append((one, marks))
    return found + list(reversed(heads[0])) + list(reversed(heads[1]))
