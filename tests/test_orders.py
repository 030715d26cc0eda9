"""Which of several curves is ahead when [5.2]."""

import random
import unittest
from fractions import Fraction

from namedmoments.curves import Curve, plus, scaled, times
from namedmoments.errors import NoCurves, TooMany
from namedmoments.moments import Moment, at, compare, fraction_of, sign_then
from namedmoments.noughts import noughts
from namedmoments.orders import orders
from namedmoments.reading import read_curve
from namedmoments.signs import sign_at
from tests.helpers import NIL, UNIT, check_name, curve_of, ends, less_fraction, odd_things, pair, power, product, rate

NOUGHT = Curve(())
T = Curve(((UNIT, 1, NIL),))
ONE = Curve(((UNIT, 0, NIL),))
TWO = read_curve("-2 - t + e^(1)")
SETS = [
    [T], [NOUGHT], [NOUGHT, NOUGHT], [T, T, T, T], [NOUGHT, T], [T, NOUGHT, ONE], [ONE, read_curve("2"), read_curve("-3/7")],
    [T, read_curve("t^2"), read_curve("t^3")], [T, read_curve("-t"), T, ONE], [TWO, T, T, NOUGHT],
    [read_curve("e^(1)"), read_curve("1 + t"), read_curve("1 + t + 1/2 t^2"), NOUGHT],
    [read_curve("e^(1/4)"), read_curve("e^(1/2)"), read_curve("e^(-3/4)"), ONE],
    [plus(rate(Fraction(1, 5)), T), rate(Fraction(1, 5)), plus(rate(Fraction(1, 5)), ONE)],
    [plus(power(T, 6), ONE), read_curve("1 + e^(1)"), read_curve("2")],
    [read_curve("1 + e^(1/3)"), read_curve("e^(1/3)"), T, read_curve("3/2 t")],
]


class Case(unittest.TestCase):

    def too_many(self, curves):
        with self.assertRaises(TooMany) as got:
            orders(curves)
        self.assertEqual(got.exception.most, 4)

    def lots_at(self, curves, sign):
        """The lots, by a function that tells the sign of a curve."""
        place = []
        for one in curves:
            ahead = [other for other in curves if other != one and sign(plus(other, scaled(one, (-1, 1)))) > 0]
            place.append(len(ahead))
        return tuple([tuple([index for index in range(len(curves)) if place[index] == number])
                      for number in sorted(set(place))])


class Orders(Case):

    def test_form(self):
        for curves in SETS:
            found = orders(curves)
            self.assertIs(found.__class__, tuple)
            self.assertEqual(len(found), 2)
            moments, rankings = found
            self.assertIs(moments.__class__, list)
            self.assertIs(rankings.__class__, list)
            self.assertEqual(len(rankings), 2 * len(moments) + 1)
            for moment in moments:
                check_name(self, moment)
            for ranking in rankings:
                self.assertIs(ranking.__class__, tuple)
                for lot in ranking:
                    self.assertIs(lot.__class__, tuple)
                    self.assertEqual(list(lot), sorted(lot))
                    self.assertTrue(lot)
                self.assertEqual(sorted([index for lot in ranking for index in lot]), list(range(len(curves))))

    def test_moments(self):
        for curves in SETS:
            moments, _ = orders(curves)
            for one, other in zip(moments, moments[1:]):
                self.assertEqual(compare(one, other), -1)
            leads = [plus(one, scaled(other, (-1, 1))) for one in curves for other in curves if one != other]
            for moment in moments:
                self.assertIn(0, [sign_then(lead, moment) for lead in leads])
            for lead in leads:
                for moment in noughts(lead):
                    self.assertEqual([compare(moment, other) for other in moments].count(0), 1)

    def test_rankings(self):
        for curves in SETS:
            moments, rankings = orders(tuple(curves))
            for index, moment in enumerate(moments):
                self.assertEqual(rankings[2 * index + 1], self.lots_at(curves, lambda curve: sign_then(curve, moment)))
            for place in [Fraction(n, 7) for n in range(-50, 51)] + [Fraction(999), Fraction(-999)]:
                order = [compare(moment, at(pair(place))) for moment in moments]
                cell = 2 * order.count(-1) + order.count(0)
                self.assertEqual(rankings[cell], self.lots_at(curves, lambda curve: sign_at(curve, pair(place))))

    def test_by_hand(self):
        moments, rankings = orders([T, read_curve("t^2"), NOUGHT])
        self.assertEqual([fraction_of(moment) for moment in moments], [NIL, UNIT])
        self.assertEqual(rankings, [((1,), (2,), (0,)), ((0, 1, 2),), ((0,), (1,), (2,)), ((0, 1), (2,)), ((1,), (0,), (2,))])
        moments, rankings = orders((TWO, T, T, NOUGHT))
        self.assertEqual(len(moments), 5)
        self.assertEqual(rankings[:3], [((0,), (3,), (1, 2)), ((0, 3), (1, 2)), ((3,), (0,), (1, 2))])
        self.assertEqual(rankings[-1], ((0,), (1, 2), (3,)))
        self.assertEqual(orders([T]), ([], [((0,),)]))
        self.assertEqual(orders([T, T]), ([], [((0, 1),)]))
        self.assertEqual(orders([ONE, read_curve("2")]), ([], [((1,), (0,))]))
        self.assertEqual(orders([NOUGHT]), ([], [((0,),)]))

    def test_touching_and_close(self):
        gap = Fraction(1, 10 ** 20)
        moments, rankings = orders([read_curve("e^(1)"), read_curve("1 + t")])
        self.assertEqual([fraction_of(moment) for moment in moments], [NIL])
        self.assertEqual(rankings, [((0,), (1,)), ((0, 1),), ((0,), (1,))])
        for x in [Fraction(1, 3), Fraction(-999)]:
            curves = [NOUGHT, less_fraction(x), scaled(less_fraction(x + gap), (2, 1))]
            moments, rankings = orders(curves)
            self.assertEqual([fraction_of(moment) for moment in moments], [pair(x), pair(x + gap), pair(x + 2 * gap)])
            self.assertEqual(rankings[1::2], [((0, 1), (2,)), ((1,), (0, 2)), ((1, 2), (0,))])

    def test_several_meet_at_once(self):
        curves = [T, scaled(T, (2, 1)), times(T, read_curve("-1 + e^(1)")), NOUGHT]
        moments, rankings = orders(curves)
        self.assertEqual([fraction_of(moment) for moment in moments], [NIL, None, None])
        self.assertEqual(rankings[1], ((0, 1, 2, 3),))
        self.assertEqual(compare(moments[1], Moment(read_curve("-2 + e^(1)"), NIL, UNIT)), 0)
        self.assertEqual(rankings[3], ((1,), (0, 2), (3,)))

    def test_by_chance(self):
        chance = random.Random(4)
        for bottom in [1, 2, 3, 4]:
            curves = [curve_of({(chance.randint(0, 2), Fraction(chance.randint(-4, 4), bottom)): chance.randint(-3, 3)
                                for _ in range(3)}) for _ in range(4)]
            moments, rankings = orders(curves)
            for place in [Fraction(chance.randint(-3000, 3000), 601) for _ in range(30)]:
                order = [compare(moment, at(pair(place))) for moment in moments]
                self.assertEqual(rankings[2 * order.count(-1) + order.count(0)],
                                 self.lots_at(curves, lambda curve: sign_at(curve, pair(place))))

    def test_new_and_unchanged(self):
        curves = [TWO, T, NOUGHT]
        one, other = orders(curves), orders(curves)
        self.assertEqual(one, other)
        self.assertIsNot(one[0], other[0])
        self.assertIsNot(one[1], other[1])
        one[0].clear()
        one[1].clear()
        self.assertEqual(orders(curves), other)
        self.assertEqual(curves, [TWO, T, NOUGHT])
        self.assertLess(max(end for moment in other[0] for end in ends(moment)), 1001)


class Errors(Case):

    def test_no_curves(self):
        for thing in odd_things() + [[], (), [T] * 5, (T,) * 5, [T, None], (T, "t"), [T.terms], T, [[T]], {0: T}, [T, 1],
                                     [T] * 99999, [at(NIL)], (T, True), iter([T])]:
            with self.assertRaises(NoCurves):
                orders(thing)
        with self.assertRaises(NoCurves):
            orders([rate(Fraction(1, 5)), T, None])

    def test_too_many(self):
        fifth = rate(Fraction(1, 5))
        self.too_many([fifth, T])
        self.too_many([T, T, plus(T, fifth)])
        self.too_many([NOUGHT, fifth])
        # two differences, neither of which has too many by itself
        self.too_many([rate(Fraction(1, 2)), T, rate(Fraction(1, 3))])
        half, third = plus(fifth, rate(Fraction(1, 2))), plus(fifth, rate(Fraction(1, 3)))
        self.too_many((fifth, half, third))
        self.assertEqual(len(orders((fifth, half))[0]), 0)

    def test_equal_ones_raise_nothing(self):
        fifth = plus(rate(Fraction(1, 5)), rate(Fraction(1, 7)))
        self.assertEqual(orders([fifth]), ([], [((0,),)]))
        self.assertEqual(orders([fifth] * 4), ([], [((0, 1, 2, 3),)]))
        self.assertEqual(orders([NOUGHT] * 3), ([], [((0, 1, 2),)]))
        moments, rankings = orders([fifth, plus(fifth, T), fifth])
        self.assertEqual([fraction_of(moment) for moment in moments], [NIL])
        self.assertEqual(rankings, [((0, 2), (1,)), ((0, 1, 2),), ((1,), (0, 2))])

    def test_great_curves(self):
        moments, _ = orders([power(T, 6), read_curve("e^(1)"), product([T, T])])
        self.assertEqual(len(moments), 3 + 1 + 3)


if __name__ == "__main__":
    unittest.main()
