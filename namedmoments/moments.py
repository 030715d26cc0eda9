"""Moments, and how they are held against each other, fractions and polynomials [4.1] [4.3]."""

from namedmoments.checks import FARTHEST, check_bottoms, is_near
from namedmoments.common import bare, is_plain
from namedmoments.curves import Curve, gathered
from namedmoments.errors import BadMoment, NoFraction, NoNumber
from namedmoments.finding import noughts_between
from namedmoments.grids import grid_of
from namedmoments.places import closer, is_origin, place_at, place_of, sign_in, told_apart, turns_within
from namedmoments.ratios import NIL, UNIT, integer_power, is_number, less, ratio
from namedmoments.signs import sign_at
from namedmoments.worths import sign_there

FARTHEST_NAMED = 999
MOST_FINE = 18


class Moment:
    """The name of the one moment between two fractions at which a plain curve is nought."""

    def __init__(self, curve, low, high):
        check_moment(curve, low, high)
        self.curve = curve
        self.low = low
        self.high = high

    def __eq__(self, other):
        if not isinstance(other, Moment):
            return False
        return self.curve == other.curve and self.low == other.low and self.high == other.high


def check_moment(curve, low, high):
    """Raise BadMoment, or TooMany, unless these name a moment."""
    if not isinstance(curve, Curve) or len(curve.terms) == 0:
        raise BadMoment("curve")
    check_bottoms([curve])
    if not is_plain(curve):
        raise BadMoment("curve")
    if not is_near(low, FARTHEST) or not is_near(high, FARTHEST) or not less(low, high):
        raise BadMoment("ends")
    if sign_at(curve, low) * sign_at(curve, high) != -1:
        raise BadMoment("signs")
    if noughts_between(curve, low, high) > 1:
        raise BadMoment("many")


def moment_of(place):
    """The Moment that names a place."""
    curve, _, (low, high, _) = place
    # Moment(..) would ask once more what is known already
    moment = Moment(gathered([(UNIT, 1, NIL)]), (-1, 1), UNIT)
    moment.curve = curve
    moment.low = low
    moment.high = high
    return moment


def place_from(moment):
    """The place of a Moment."""
    return place_of(moment.curve, moment.low, moment.high)


def at(number):
    """A Moment that names a fraction from -999 to 999."""
    if not is_near(number, FARTHEST_NAMED):
        raise NoFraction()
    return moment_of(place_at(number))


def finer(moment, many):
    """A Moment of the same moment, its ends at most 10 ^ -many apart."""
    if not is_number(many) or many > MOST_FINE:
        raise NoNumber()
    return moment_of(closer(place_from(moment), integer_power(10, many).bit_length()))


def compare(one, other):
    """-1, 0 or 1, as a moment is ahead of another one, the same, or behind it."""
    check_bottoms([one.curve, other.curve])
    order, _, _ = told_apart(place_from(one), place_from(other))
    return order


def sign_then(curve, moment):
    """The sign of a curve at a moment."""
    check_bottoms([curve, moment.curve])
    return sign_in(curve, place_from(moment))


def polynomial_of(moment):
    """A trimmed plain curve with no q but 0 that is nought at a moment, or None."""
    if is_origin(place_from(moment)):
        return gathered([(UNIT, 1, NIL)])
    # powers of e to other fractions than 0 are no numbers that polynomials in t could cancel out
    found = bare(moment.curve)
    return found if turns_within(found, moment.low, moment.high) else None


def fraction_of(moment):
    """The fraction that a moment is, or None."""
    if is_origin(place_from(moment)):
        return NIL
    polynomial = polynomial_of(moment)
    if polynomial is None:
        return None
    grid, _, _ = grid_of(polynomial, 1)
    # a fraction at which it is nought has a bottom that divides its last integer
    bottom = grid[max(list(grid))]
    _, drawn, (low, high, _) = closer(place_of(polynomial, moment.low, moment.high), bottom.bit_length())
    number = ratio(low[0] * bottom // low[1] + 1, bottom)
    return number if less(number, high) and sign_there(drawn, number) == 0 else None
