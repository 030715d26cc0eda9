"""What several tests need: odd things to pass, and another way to reckon with curves."""

from decimal import MAX_EMAX, MIN_EMIN, Decimal, localcontext
from fractions import Fraction
from math import gcd

from namedmoments.curves import Curve, plus, stretched, times
from namedmoments.moments import Moment, finer

NIL = (0, 1)
UNIT = (1, 1)
SMALL = [
    Curve(()),
    Curve((((3, 2), 0, NIL),)),
    Curve((((-1, 1), 1, NIL),)),
    Curve((((5, 7), 3, NIL),)),
    Curve((((1, 1), 0, (1, 1)),)),
    Curve((((-2, 3), 2, (-3, 2)),)),
    Curve((((1, 2), 3, (4, 1)),)),
    Curve((((-2, 1), 0, NIL), ((-1, 1), 1, NIL), ((1, 1), 0, (1, 1)))),
    Curve((((7, 3), 1, (-4, 1)), ((1, 1), 0, (1, 3)), ((-1, 6), 0, (1, 2)), ((2, 1), 3, (1, 2)))),
    Curve((
        ((1, 1), 0, (-7, 2)), ((-1, 2), 3, (-1, 2)), ((1, 3), 3, (-1, 3)), ((-1, 4), 0, NIL),
        ((1, 5), 2, NIL), ((-1, 6), 1, (1, 4)), ((1, 7), 2, (1, 4)), ((-1, 8), 3, (13, 4)),
    )),
]
NUMBERS = [NIL, UNIT, (-1, 1), (2, 1), (-3, 1), (1, 2), (-5, 6), (10 ** 29, 7)]


def deep(make):
    """A thing nested forty deep."""
    thing = make(1)
    for _ in range(39):
        thing = make(thing)
    return thing


def odd_things():
    """Things of many kinds that are neither integers, nor fractions, nor curves' terms."""
    return [
        None, True, False, "", "1", "1/2", b"", b"1", bytearray(b"12"), memoryview(b"12"),
        [], {}, {1: 1}, range(2), slice(1, 2), Ellipsis, NotImplemented,
        object(), int, tuple, Fraction, Curve, len, deep, Curve(()), SMALL[-1], ValueError("x"),
        iter([1, 1]), (n for n in (1, 1)), zip([1], [1]), {1: 1}.keys(), property(),
        deep(lambda thing: (thing,)), deep(lambda thing: [thing]), deep(lambda thing: {1: thing}),
        deep(lambda thing: (thing, 1)), deep(lambda thing: (1, thing)),
        deep(lambda thing: (thing, 0, (0, 1))), [0] * 99999, "x" * 2000, {n: n for n in range(40000)},
    ]


def no_fractions():
    """Things that are no fractions."""
    return odd_things() + [
        0, 1, -1, 10 ** 29, (), (1,), (1, 1, 1), [1, 1], [0, 1], ["1", "1"], ("1", "1"),
        (2, 4), (-3, 3), (0, 2), (0, 0), (1, 0), (1, -1), (-1, -2), (0, -1), (10 ** 29, 10 ** 28),
        (True, 1), (1, True), (False, 1), (True, True), (None, 1), (1, None), ((1, 1), 1),
        (1, (1, 1)), ((1, 1), (1, 1)), {1: 1, 2: 1}, "11", b"11", (0,) * 100000,
        (deep(lambda thing: (thing,)), 1), (1, deep(lambda thing: [thing])),
    ]


def pair(worth):
    """The pair of what a Fraction is worth."""
    return (worth.numerator, worth.denominator)


def worth(fraction):
    """What a pair is worth."""
    return Fraction(fraction[0], fraction[1])


def series(terms, many):
    """The first figures of the power series of terms: curves are equal if enough of these are."""
    sums = [Fraction(0)] * many
    for c, k, q in terms:
        part = worth(c)
        for place in range(k, many):
            sums[place] += part
            part = part * worth(q) / (place - k + 1)
    return sums


def check_form(case, curve):
    """That something is a Curve in the form in which curves are returned."""
    case.assertIs(curve.__class__, Curve)
    case.assertIs(curve.terms.__class__, tuple)
    places = []
    for term in curve.terms:
        case.assertIs(term.__class__, tuple)
        c, k, q = term
        for fraction in (c, q):
            case.assertIs(fraction.__class__, tuple)
            top, bottom = fraction
            case.assertIs(top.__class__, int)
            case.assertIs(bottom.__class__, int)
            case.assertGreater(bottom, 0)
            case.assertEqual(gcd(top, bottom), 1)
        case.assertIs(k.__class__, int)
        case.assertGreaterEqual(k, 0)
        case.assertNotEqual(c[0], 0)
        places.append((worth(q), k))
    for index in range(1, len(places)):
        case.assertLess(places[index - 1], places[index])


def power(curve, doublings):
    """A curve times itself, and this times itself, so often."""
    for _ in range(doublings):
        curve = times(curve, curve)
    return curve


def many_terms():
    """A curve of more terms than callers may pass, with greater k and other q."""
    return plus(times(SMALL[8], SMALL[9]), times(SMALL[7], SMALL[7]))


def rate(q):
    """e ^ (q t), q being whatever Fraction takes."""
    return curve_of({(0, q): 1})


def curve_of(worths):
    """The curve of a dict of each c by its (k, q), of whatever Fraction takes."""
    total = Curve(())
    for (k, q), c in worths.items():
        q = Fraction(q)
        if c == 0:
            continue
        part = Curve(((pair(Fraction(c)), k % 4, NIL),))
        for _ in range(k // 4):
            part = times(part, times(Curve(((UNIT, 3, NIL),)), Curve(((UNIT, 1, NIL),))))
        if q != 0:
            part = times(part, stretched(Curve(((UNIT, 0, UNIT),)), pair(q)))
        total = plus(total, part)
    return total


def less_fraction(fraction):
    """t less a fraction."""
    return curve_of({(1, 0): 1, (0, 0): -Fraction(fraction)})


def product(curves):
    """The product of some curves, 1 of none."""
    whole = Curve(((UNIT, 0, NIL),))
    for curve in curves:
        whole = times(whole, curve)
    return whole


def no_numbers(most):
    """Things that are no integers from 0 to most."""
    return odd_things() + [-1, -10 ** 29, most + 1, 10 ** 29, (1, 1), (0, 1), NIL, [0], (0,)]


def decimal_worth(curve, fraction, digits):
    """What a curve is worth at a fraction, by other means, to so many digits more or less."""
    with localcontext() as context:
        context.prec = digits
        context.Emax, context.Emin = MAX_EMAX, MIN_EMIN
        total = Decimal(0)
        place = Decimal(fraction.numerator) / Decimal(fraction.denominator)
        for c, k, q in curve.terms:
            part = Decimal(c[0]) / Decimal(c[1]) * place ** k if k else Decimal(c[0]) / Decimal(c[1])
            raised = worth(q) * fraction
            total += part * (Decimal(raised.numerator) / Decimal(raised.denominator)).exp()
        return total


def ends(moment):
    """The ends of a moment as Fractions."""
    return worth(moment.low), worth(moment.high)


def check_name(case, moment):
    """That something is a Moment that a caller could have made."""
    case.assertIs(moment.__class__, Moment)
    check_form(case, moment.curve)
    for fraction in (moment.low, moment.high):
        case.assertIs(fraction.__class__, tuple)
        case.assertEqual(pair(worth(fraction)), fraction)
    case.assertEqual(Moment(moment.curve, moment.low, moment.high), moment)


def log_pair(number, digits=60):
    """Two Fractions, very close, between which the logarithm of a Fraction is."""
    with localcontext() as context:
        context.prec = digits
        close = Fraction((Decimal(number.numerator) / Decimal(number.denominator)).ln())
    gap = Fraction(1, 10 ** (digits - 5))
    return close - gap, close + gap


def check_near_to(case, moment, low, high):
    """That a moment may be what lies between two Fractions, as far as its finest ends tell."""
    start, end = ends(finer(moment, 18))
    case.assertLess(start, high)
    case.assertLess(low, end)
