"""Moments: what names one, and what does not [4.1]."""

import unittest
from fractions import Fraction

from namedmoments.common import plain, trimmed
from namedmoments.curves import Curve, area, plus, scaled, stretched, times
from namedmoments.errors import BadMoment, NoFraction, TooMany
from namedmoments.moments import Moment, at, compare, fraction_of
from namedmoments.reading import read_curve
from tests.helpers import NIL, UNIT, check_name, curve_of, deep, less_fraction, no_fractions, odd_things, pair
from tests.helpers import power, product, rate, worth

T = Curve(((UNIT, 1, NIL),))
GAP = Fraction(1, 10 ** 20)
GOOD = [
    ("t", (-1, 1), (1, 1)),
    ("-3 + 2 t", (1, 1), (2, 1)),
    ("-2 + t^2", (1, 1), (2, 1)),
    ("-2 + t^2", (-1000, 1), NIL),
    ("-3/7 - t + 5 t^3", (0, 1), (1000, 1)),
    ("-3 e^(1) + t e^(1)", (0, 1), (10 ** 29, 10 ** 28 - 1)),
    ("-2 + e^(1)", (1, 2), (1, 1)),
    ("-2 e^(-4) + e^(-3)", (-1000, 1), (1000, 1)),
    ("-2 - t + e^(1)", NIL, (1000, 1)),
    ("-2 - t + e^(1)", (-2, 1), (-1, 1)),
    ("-1 + t e^(1/2)", NIL, (3, 1)),
    ("-1 + t e^(1/3)", NIL, (3, 1)),
    ("-3 e^(-1/4) + t + t^2 e^(1/2)", NIL, (3, 1)),
    ("t - 5 e^(1/4) + t^3 e^(3/4) + e^(1)", NIL, (3, 1)),
    ("-1 - t - 1/2 t^2 + e^(1)", (-1, 1), (1, 1)),
    ("e^(-4) - 1", (-1, 10 ** 30 - 1), (1, 10 ** 30 - 1)),
]


class Case(unittest.TestCase):

    def bad(self, part, curve, low, high):
        with self.assertRaises(BadMoment) as got:
            Moment(curve, low, high)
        self.assertEqual(got.exception.part, part)

    def good(self, curve, low, high):
        moment = Moment(curve, low, high)
        self.assertEqual(moment.curve, curve)
        self.assertEqual((moment.low, moment.high), (low, high))
        return moment


class Good(Case):

    def test_each_kind(self):
        for text, low, high in GOOD:
            curve = read_curve(text)
            moment = self.good(curve, low, high)
            self.assertIs(moment.curve.__class__, Curve)
            self.good(scaled(curve, (-7, 3)), low, high)
            self.good(times(curve, read_curve("5/3 e^(2)")), low, high)

    def test_not_trimmed_is_kept_as_it_is(self):
        curve = read_curve("-4 e^(-2) + 2 t e^(-2)")
        moment = self.good(curve, (1, 1), (3, 1))
        self.assertNotEqual(moment.curve, trimmed(curve))

    def test_returned_curves(self):
        great = power(T, 7)
        self.good(plus(great, curve_of({(0, 0): -2})), UNIT, (2, 1))
        self.good(plus(great, curve_of({(0, 1): -1})), UNIT, (2, 1))
        wide = plain(times(plus(rate(900), curve_of({(1, 0): -2})), plus(rate(-900), less_fraction(3))))
        self.good(wide, (29, 10), (31, 10))

    def test_beside_other_noughts(self):
        curve = product([less_fraction(n) for n in range(-3, 4)])
        for n in range(-3, 4):
            self.good(curve, pair(n - Fraction(1, 2)), pair(n + Fraction(1, 2)))
            self.good(curve, pair(n - GAP), pair(n + 1 - GAP))

    def test_close_noughts(self):
        for x in [Fraction(1, 3), Fraction(999), Fraction(-999), Fraction(10 ** 20, 10 ** 20 + 1)]:
            curve = times(less_fraction(x), less_fraction(x + GAP))
            middle = x + GAP / 2
            self.good(curve, pair(middle), pair(x + GAP + GAP / 100))
            self.good(curve, pair(x - GAP / 100), pair(middle))


class Equal(Case):

    def test_of_equal_names(self):
        for text, low, high in GOOD:
            self.assertTrue(Moment(read_curve(text), low, high) == Moment(read_curve(text), low, high))
            self.assertFalse(Moment(read_curve(text), low, high) != Moment(read_curve(text), low, high))

    def test_of_unlike_names_of_one_moment(self):
        one = Moment(T, (-1, 1), UNIT)
        for other in [Moment(T, (-1, 2), UNIT), Moment(T, (-1, 1), (1, 2)), Moment(scaled(T, (2, 1)), (-1, 1), UNIT),
                      Moment(read_curve("-1 + e^(1)"), (-1, 1), UNIT), Moment(read_curve("t e^(1)"), (-1, 1), UNIT)]:
            self.assertFalse(one == other)
            self.assertTrue(one != other)
            self.assertEqual(compare(one, other), 0)

    def test_of_other_classes(self):
        one = Moment(T, (-1, 1), UNIT)
        for thing in odd_things() + [(T, (-1, 1), UNIT), T, (0, 1)]:
            self.assertFalse(one == thing)
            self.assertTrue(one != thing)


class NoCurveOfMoments(Case):

    def test_no_curve(self):
        for thing in odd_things() + [(), "t", (((1, 1), 1, (0, 1)),), T.terms, [T], at(NIL)]:
            if thing.__class__ is not Curve:
                self.bad("curve", thing, (-1, 1), (1, 1))

    def test_nought_everywhere(self):
        self.bad("curve", Curve(()), (-1, 1), (1, 1))
        self.bad("curve", plus(T, scaled(T, (-1, 1))), (-1, 1), (1, 1))

    def test_not_plain(self):
        for text in ["t^2", "1 - 2 t + t^2", "4 - 4 e^(1) + e^(2)", "t^2 e^(1)", "t^3", "t^2 - 2 t e^(1) + e^(2)"]:
            self.bad("curve", read_curve(text), (-1, 1), (5, 1))
        one = read_curve("-2 - t + e^(1)")
        self.bad("curve", times(one, one), (0, 1), (2, 1))
        self.bad("curve", times(times(one, one), less_fraction(100)), (99, 1), (101, 1))
        self.bad("curve", times(one, times(one, one)), NIL, (2, 1))

    def test_too_many(self):
        for text in ["t + e^(1/3) + e^(1/2)", "-1 + e^(1/4) - e^(1/3)", "e^(2/3) - t e^(5/4)"]:
            for low, high in [((-1, 1), (1, 1)), ((1, 1), (-1, 1)), (None, 5)]:
                with self.assertRaises(TooMany) as got:
                    Moment(read_curve(text), low, high)
                self.assertEqual(got.exception.most, 4)
        for bottom in [5, 7, 12, 60]:
            with self.assertRaises(TooMany):
                Moment(plus(T, rate(Fraction(1, bottom))), (-1, 1), (1, 1))
            with self.assertRaises(TooMany):
                square = plus(T, rate(Fraction(1, bottom)))
                Moment(times(square, square), (-1, 1), (1, 1))


class Ends(Case):

    def test_no_fractions(self):
        for thing in no_fractions():
            self.bad("ends", T, thing, (1, 1))
            self.bad("ends", T, (-1, 1), thing)
            self.bad("ends", T, thing, thing)

    def test_order_and_reach(self):
        for low, high in [((1, 1), (1, 1)), (NIL, NIL), ((1, 1), (-1, 1)), ((1, 2), (1, 3)), ((-1, 3), (-1, 2)),
                          ((-1001, 1), (1, 1)), ((-1, 1), (1001, 1)), ((-10 ** 29, 1), (10 ** 29, 1)),
                          ((-1000 * 10 ** 26 - 1, 10 ** 26), (1, 1)), ((-1, 1), (1000 * 10 ** 26 + 1, 10 ** 26))]:
            self.bad("ends", T, low, high)
        self.good(T, (-1000, 1), (1000, 1))
        self.good(T, (-1000 * 10 ** 26 + 1, 10 ** 26), (1000 * 10 ** 26 - 1, 10 ** 26))

    def test_forty_deep(self):
        self.bad("ends", T, deep(lambda thing: (thing,)), (1, 1))
        self.bad("ends", T, (-1, 1), deep(lambda thing: (thing, 1)))


class Signs(Case):

    def test_alike_or_0(self):
        for text, low, high in [("t", (1, 1), (2, 1)), ("t", (-2, 1), (-1, 1)), ("t", NIL, (1, 1)), ("t", (-1, 1), NIL),
                                ("-2 + t^2", (-2, 1), (2, 1)), ("-3/2 + t", (3, 2), (2, 1)), ("1", NIL, UNIT),
                                ("e^(1)", (-1000, 1), (1000, 1)), ("1 + t^2", (-1000, 1), (1000, 1)),
                                ("-1 + e^(1)", NIL, (1, 1)), ("-1 + e^(1)", (-1000, 1), NIL),
                                ("-1 - t + e^(1)", (-1, 1), (1, 1)), ("-2 + e^(1)", (1, 1), (2, 1)),
                                ("-1 + t", (-1, 1), (1, 1)), ("-2 - t + e^(1)", (-1000, 1), (1000, 1))]:
            self.bad("signs", read_curve(text), low, high)

    def test_close_to_the_nought(self):
        for x in [Fraction(1, 3), Fraction(-998, 1)]:
            self.bad("signs", less_fraction(x), pair(x), pair(x + GAP))
            self.bad("signs", less_fraction(x), pair(x - GAP), pair(x))
            self.bad("signs", less_fraction(x), pair(x + GAP), pair(x + 2 * GAP))
            self.good(less_fraction(x), pair(x - GAP), pair(x + GAP))


class Many(Case):

    def test_three_noughts(self):
        for curve in [product([less_fraction(n) for n in (-1, 0, 1)]), read_curve("-2 t + t^3"),
                      product([read_curve("-2 + e^(1)"), read_curve("-3 + e^(1)"), less_fraction(1)])]:
            self.bad("many", curve, (-1000, 1), (1000, 1))
            self.bad("many", curve, (-2, 1), (2, 1))

    def test_close_ones(self):
        for x in [Fraction(1, 3), Fraction(999), Fraction(-999)]:
            three = product([less_fraction(x), less_fraction(x + GAP), less_fraction(x - GAP)])
            self.bad("many", three, pair(x - 1), pair(x + 1))
            self.bad("many", three, pair(x - GAP * 3 / 2), pair(x + GAP * 3 / 2))
            self.good(three, pair(x - GAP / 2), pair(x + GAP / 2))
            self.good(times(three, read_curve("-2 + e^(1)")), pair(x - GAP / 2), pair(x + GAP / 2))
            wide = times(times(less_fraction(x), less_fraction(x + GAP)), less_fraction(0))
            self.bad("many", wide, (-1000, 1), (1000, 1))

    def test_0_where_it_does_not_turn(self):
        touching = read_curve("-1 - t + e^(1)")
        for x in (1, -3):
            curve = times(touching, less_fraction(x))
            self.bad("many", curve, (-4, 1), (2, 1))
            self.good(curve, pair(x - Fraction(1, 2)), pair(x + Fraction(1, 2)))
        curve = times(less_fraction(0), read_curve("-1 + e^(1)"))
        self.bad("many", times(curve, less_fraction(1)), (-1, 2), (2, 1))
        self.good(times(curve, less_fraction(1)), (1, 2), (2, 1))

    def test_0_where_it_turns(self):
        curve = times(less_fraction(0), product([read_curve("-1 + e^(1)"), read_curve("-1 + e^(1/2)")]))
        self.bad("curve", curve, (-1, 1), (1, 1))
        self.good(times(T, read_curve("-1 - t + e^(1)")), (-1, 1), (1, 1))
        self.good(area(area(read_curve("-1 + e^(1)"))), (-1, 1), (1, 1))


class Order(Case):

    def test_the_first_that_is_wrong(self):
        square = read_curve("1 - 2 t + t^2")
        bottoms = read_curve("t + e^(1/3) + e^(1/2)")
        for curve, part in [(None, "curve"), (Curve(()), "curve"), (square, "curve"), ((), "curve")]:
            for low, high in [(None, None), ((2, 1), (1, 1)), ((1, 1), (1, 1)), ((-1, 1), (5, 1)), ((2, 1), (3, 1))]:
                self.bad(part, curve, low, high)
        for low, high in [(None, None), ((2, 1), (1, 1)), ((-1, 1), (5, 1)), ((2, 1), (3, 1))]:
            with self.assertRaises(TooMany):
                Moment(bottoms, low, high)
            with self.assertRaises(TooMany):
                Moment(times(bottoms, bottoms), low, high)
        three = product([less_fraction(n) for n in (-1, 0, 1)])
        self.bad("ends", three, (2, 1), (-2, 1))
        self.bad("ends", three, (-1001, 1), (2, 1))
        self.bad("ends", three, (1, 1), (1, 1))
        self.bad("ends", read_curve("1"), (1, 1), (1, 1))
        self.bad("signs", three, (-1, 1), (2, 1))
        self.bad("signs", three, (-2, 1), (1, 2))
        self.bad("many", three, (-2, 1), (2, 1))

    def test_part_is_a_string(self):
        with self.assertRaises(BadMoment) as got:
            Moment(T, (1, 1), (2, 1))
        self.assertIs(got.exception.part.__class__, str)


class At(Case):

    def test_fractions(self):
        for number in [NIL, UNIT, (-1, 1), (999, 1), (-999, 1), (1, 3), (10 ** 30 - 1, 10 ** 29), (-8, 10 ** 30 - 1),
                       (999 * 10 ** 26 - 1, 10 ** 26), (1, 10 ** 29), pair(Fraction(123456789, 987654321))]:
            moment = at(number)
            check_name(self, moment)
            self.assertLess(worth(moment.low), worth(number))
            self.assertLess(worth(number), worth(moment.high))
            self.assertEqual(fraction_of(moment), number)
            self.assertEqual(compare(moment, at(number)), 0)
            self.assertEqual(compare(moment, Moment(less_fraction(worth(number)), (-1000, 1), (1000, 1))), 0)

    def test_no_fraction(self):
        for thing in no_fractions() + [(1000, 1), (-1000, 1), (999 * 10 ** 26 + 1, 10 ** 26), (10 ** 29, 1),
                                       (-999 * 10 ** 26 - 1, 10 ** 26), (1999, 2)]:
            with self.assertRaises(NoFraction):
                at(thing)

    def test_stretched_and_scaled_names(self):
        one = stretched(read_curve("-2 - t + e^(1)"), (1, 2))
        self.good(one, NIL, (1000, 1))


if __name__ == "__main__":
    unittest.main()
