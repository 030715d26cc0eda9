"""What several tests need: odd things to pass, and another way to reckon with curves."""

from fractions import Fraction
from math import gcd

from namedmoments.curves import Curve, plus, times

NIL = (0, 1)
UNIT = (1, 1)
SMALL = [
    Curve(()),
    Curve((((3, 2), 0, NIL),)),
    Curve((((-1, 1), 1, NIL),)),
    Curve((((5, 7), 3, NIL),)),
    Curve((((1, 1), 0, (1, 1)),)),
    Curve((((-2, 3), 2, (-3, 2)),)),
    Curve((((1, 2), 3, (4, 1)),)),
    Curve((((-2, 1), 0, NIL), ((-1, 1), 1, NIL), ((1, 1), 0, (1, 1)))),
    Curve((((7, 3), 1, (-4, 1)), ((1, 1), 0, (1, 3)), ((-1, 6), 0, (1, 2)), ((2, 1), 3, (1, 2)))),
    Curve((
        ((1, 1), 0, (-7, 2)), ((-1, 2), 3, (-1, 2)), ((1, 3), 3, (-1, 3)), ((-1, 4), 0, NIL),
        ((1, 5), 2, NIL), ((-1, 6), 1, (1, 4)), ((1, 7), 2, (1, 4)), ((-1, 8), 3, (13, 4)),
    )),
]
NUMBERS = [NIL, UNIT, (-1, 1), (2, 1), (-3, 1), (1, 2), (-5, 6), (10 ** 29, 7)]


def deep(make):
    """A thing nested forty deep."""
    thing = make(1)
    for _ in range(39):
        thing = make(thing)
    return thing


def odd_things():
    """Things of many kinds that are neither integers, nor fractions, nor curves' terms."""
    return [
        None, True, False, "", "1", "1/2", b"", b"1", bytearray(b"12"), memoryview(b"12"),
        [], {}, {1: 1}, range(2), slice(1, 2), Ellipsis, NotImplemented,
        object(), int, tuple, Fraction, Curve, len, deep, Curve(()), SMALL[-1], ValueError("x"),
        iter([1, 1]), (n for n in (1, 1)), zip([1], [1]), {1: 1}.keys(), property(),
        deep(lambda thing: (thing,)), deep(lambda thing: [thing]), deep(lambda thing: {1: thing}),
        deep(lambda thing: (thing, 1)), deep(lambda thing: (1, thing)),
        deep(lambda thing: (thing, 0, (0, 1))), [0] * 99999, "x" * 2000, {n: n for n in range(40000)},
    ]


def no_fractions():
    """Things that are no fractions."""
    return odd_things() + [
        0, 1, -1, 10 ** 29, (), (1,), (1, 1, 1), [1, 1], [0, 1], ["1", "1"], ("1", "1"),
        (2, 4), (-3, 3), (0, 2), (0, 0), (1, 0), (1, -1), (-1, -2), (0, -1), (10 ** 29, 10 ** 28),
        (True, 1), (1, True), (False, 1), (True, True), (None, 1), (1, None), ((1, 1), 1),
        (1, (1, 1)), ((1, 1), (1, 1)), {1: 1, 2: 1}, "11", b"11", (0,) * 100000,
        (deep(lambda thing: (thing,)), 1), (1, deep(lambda thing: [thing])),
    ]


def pair(worth):
    """The pair of what a Fraction is worth."""
    return (worth.numerator, worth.denominator)


def worth(fraction):
    """What a pair is worth."""
    return Fraction(fraction[0], fraction[1])


def series(terms, many):
    """The first figures of the power series of terms: curves are equal if enough of these are."""
    sums = [Fraction(0)] * many
    for c, k, q in terms:
        part = worth(c)
        for place in range(k, many):
            sums[place] += part
            part = part * worth(q) / (place - k + 1)
    return sums


def check_form(case, curve):
    """That something is a Curve in the form in which curves are returned."""
    case.assertIs(curve.__class__, Curve)
    case.assertIs(curve.terms.__class__, tuple)
    places = []
    for term in curve.terms:
        case.assertIs(term.__class__, tuple)
        c, k, q = term
        for fraction in (c, q):
            case.assertIs(fraction.__class__, tuple)
            top, bottom = fraction
            case.assertIs(top.__class__, int)
            case.assertIs(bottom.__class__, int)
            case.assertGreater(bottom, 0)
            case.assertEqual(gcd(top, bottom), 1)
        case.assertIs(k.__class__, int)
        case.assertGreaterEqual(k, 0)
        case.assertNotEqual(c[0], 0)
        places.append((worth(q), k))
    for index in range(1, len(places)):
        case.assertLess(places[index - 1], places[index])


def power(curve, doublings):
    """A curve times itself, and this times itself, so often."""
    for _ in range(doublings):
        curve = times(curve, curve)
    return curve


def many_terms():
    """A curve of more terms than callers may pass, with greater k and other q."""
    return plus(times(SMALL[8], SMALL[9]), times(SMALL[7], SMALL[7]))
