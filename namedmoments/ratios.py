"""Integers and fractions [0.2]: judging them and reckoning with them."""

from math import gcd, lcm

NIL = (0, 1)
UNIT = (1, 1)


def is_integer(thing):
    """Whether a thing is an integer, which no flag is."""
    return isinstance(thing, int) and not isinstance(thing, bool)


def is_number(thing):
    """Whether a thing is an integer from 0 on."""
    return is_integer(thing) and thing >= 0


def is_fraction(thing):
    """Whether a thing is a pair (top, bottom) in lowest terms, bottom above 0."""
    if not isinstance(thing, tuple) or len(thing) != 2:
        return False
    top, bottom = thing
    if not is_integer(top) or not is_integer(bottom):
        return False
    return bottom > 0 and gcd(top, bottom) == 1


def ratio(top, bottom):
    """The fraction that top over bottom, which is not 0, is worth."""
    part = gcd(top, bottom)
    if bottom < 0:
        part = -part
    return (top // part, bottom // part)


def added(one, other):
    """The sum of two fractions."""
    return ratio(one[0] * other[1] + other[0] * one[1], one[1] * other[1])


def negated(fraction):
    """The fraction with the other sign."""
    return (-fraction[0], fraction[1])


def multiplied(one, other):
    """The product of two fractions."""
    return ratio(one[0] * other[0], one[1] * other[1])


def divided(one, other):
    """One fraction by another one that is not 0."""
    return ratio(one[0] * other[1], one[1] * other[0])


def less(one, other):
    """Whether one fraction is worth less than the other."""
    return one[0] * other[1] < other[0] * one[1]


def sign_of(integer):
    """The sign of an integer."""
    if integer == 0:
        return 0
    return 1 if integer > 0 else -1


def integer_power(base, many):
    """An integer, so many times with itself multiplied."""
    power = 1
    for digit in f"{many:b}":
        power = power * power
        if digit == "1":
            power = power * base
    return power


def power_of(fraction, many):
    """A fraction, so many times with itself multiplied."""
    return (integer_power(fraction[0], many), integer_power(fraction[1], many))


def common_bottom(fractions):
    """The least common multiple of the bottoms of a list of fractions."""
    multiple = 1
    for fraction in fractions:
        multiple = lcm(multiple, fraction[1])
    return multiple
