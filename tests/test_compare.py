"""Moments held against each other, against curves, fractions and polynomials [4.3]."""

import random
import unittest
from fractions import Fraction

from namedmoments.common import bare, common, plain, trimmed
from namedmoments.curves import Curve, plus, scaled, slope, stretched, times
from namedmoments.errors import NoNumber, TooMany
from namedmoments.moments import Moment, at, compare, finer, fraction_of, polynomial_of, sign_then
from namedmoments.noughts import noughts
from namedmoments.reading import read_curve
from namedmoments.signs import sign_at
from tests.helpers import NIL, SMALL, UNIT, check_form, check_name, curve_of, ends, less_fraction, log_pair
from tests.helpers import no_numbers, pair, power, product, rate, worth

NOUGHT = Curve(())
T = Curve(((UNIT, 1, NIL),))
GAP = Fraction(1, 10 ** 20)
LN2 = read_curve("-2 + e^(1)")
TWO = read_curve("-2 - t + e^(1)")


def ln2(text="-2 + e^(1)", low=NIL, high=(1, 1)):
    """The logarithm of 2, by the name of some curve."""
    return Moment(read_curve(text), low, high)


def same_as_ln2():
    """Several names of the logarithm of 2."""
    return [
        ln2(), ln2("-4 + e^(2)"), ln2("-2 e^(-3) + e^(-2)"), ln2("-2 + e^(1)", (-1000, 1), (1000, 1)),
        ln2("-2 + e^(1)", (69, 100), (7, 10)), ln2("-16 + e^(4)", (1, 2), (10 ** 29, 10 ** 28 - 1)), ln2("-4 + e^(2)", (-9, 7)),
        Moment(product([LN2, TWO, less_fraction(Fraction(2, 3))]), (69, 100), (7, 10)),
        Moment(product([LN2, T, read_curve("-1 + e^(1)")]), (1, 9), (7, 8)),
        noughts(times(LN2, LN2))[0], noughts(product([LN2, less_fraction(-5), LN2]))[1],
    ]


class Case(unittest.TestCase):

    def too_many(self, call, *things):
        with self.assertRaises(TooMany) as got:
            call(*things)
        self.assertEqual(got.exception.most, 4)

    def ascend(self, moments):
        """That moments ascend, each held against each."""
        for index, one in enumerate(moments):
            for place, other in enumerate(moments):
                self.assertEqual(compare(one, other), (index > place) - (index < place))


class Compare(Case):

    def test_one_moment_by_unlike_names(self):
        names = same_as_ln2()
        for one in names:
            for other in names:
                self.assertEqual(compare(one, other), 0)

    def test_roots_and_fractions(self):
        root = [Moment(read_curve("-2 + t^2"), UNIT, (2, 1)), noughts(read_curve("-2 + t^2"))[1],
                noughts(product([read_curve("-2 + t^2"), TWO, T]))[4], Moment(read_curve("-2 t + t^3"), UNIT, (9, 5)),
                noughts(read_curve("-4 + 2 t^2 - 2 e^(1) + t^2 e^(1)"))[1]]
        half = [at((1, 2)), Moment(read_curve("-1 + 2 t"), (-1000, 1), (1000, 1)), noughts(read_curve("1 - 4 t^2"))[1],
                Moment(times(less_fraction(Fraction(1, 2)), LN2), (1, 3), (2, 3))]
        for names in (root, half):
            for one in names:
                for other in names:
                    self.assertEqual(compare(one, other), 0)
        for one in half:
            for other in root:
                self.assertEqual(compare(one, other), -1)
                self.assertEqual(compare(other, one), 1)

    def test_the_moment_0(self):
        names = [at(NIL), Moment(T, (-1, 10 ** 29), (1000, 1)), Moment(read_curve("-1 + e^(1)"), (-1, 1), (1, 1)),
                 Moment(read_curve("-1 + e^(1/2)"), (-1000, 1), (1000, 1)), Moment(times(T, TWO), (-1, 1), UNIT),
                 Moment(read_curve("-1 - t - 1/2 t^2 + e^(1)"), (-3, 1), (5, 1)), noughts(times(T, TWO))[1],
                 noughts(read_curve("-1 - t + e^(1)"))[0],
                 Moment(times(T, read_curve("-2 - t + 2 e^(1/2)")), (-1, 1), (1, 1))]
        for one in names:
            for other in names:
                self.assertEqual(compare(one, other), 0)
            for text, low, high, order in [("-2 + e^(1)", (-1000, 1), (1000, 1), -1), ("-1/3 + t", (-1, 1), (1, 1), -1),
                                           ("1/3 + t", (-1, 1), (1, 1), 1), ("-1 + 2 e^(1)", (-9, 1), (9, 1), 1)]:
                self.assertEqual(compare(one, Moment(read_curve(text), low, high)), order)
                self.assertEqual(compare(Moment(read_curve(text), low, high), one), -order)

    def test_beside_0(self):
        for gap in [Fraction(1, 10 ** 15), GAP, Fraction(1, 10 ** 28)]:
            self.ascend([at(pair(-gap)), at(NIL), at(pair(gap))])
            one = Moment(less_fraction(gap), (-1, 1), (1000, 1))
            for other in [at(NIL), Moment(read_curve("-1 + e^(1)"), (-1, 1), (1, 1))]:
                self.assertEqual(compare(other, one), -1)

    def test_close_fractions(self):
        for gap in [Fraction(1, 10 ** 15), GAP]:
            for x in [Fraction(1, 3), Fraction(998), Fraction(-998), Fraction(10 ** 28 + 1, 10 ** 28)]:
                names = [at(pair(x)), at(pair(x + gap)), at(pair(x + 2 * gap))]
                self.ascend(names)
                curve = product([less_fraction(x + 2 * gap), less_fraction(x), less_fraction(x + gap), TWO])
                found = [moment for moment in noughts(curve) if compare(moment, at(pair(x - 1))) > 0]
                found = [moment for moment in found if compare(moment, at(pair(x + 1))) < 0]
                found = [moment for moment in found if fraction_of(moment)]
                for index, one in enumerate(names):
                    for place, other in enumerate(found):
                        order = (index > place) - (index < place)
                        self.assertEqual((compare(one, other), compare(other, one)), (order, -order))

    def test_close_to_logarithms(self):
        for number in [2, 3, 7]:
            low, high = log_pair(Fraction(number))
            for power_of in [1, 2, 3, 4]:
                name = Moment(curve_of({(0, power_of): 1, (0, 0): -number ** power_of}), (-1, 2), (10, 1))
                for gap in [Fraction(1, 10 ** 15), Fraction(1, 10 ** 20), Fraction(1, 10 ** 25)]:
                    ahead = Fraction((low - gap).limit_denominator(10 ** 29))
                    behind = Fraction((high + gap).limit_denominator(10 ** 29))
                    self.assertLess(ahead, low)
                    self.assertLess(high, behind)
                    self.ascend([at(pair(ahead)), name, at(pair(behind))])

    def test_many_moments(self):
        chance = random.Random(5)
        curves = [product([LN2, TWO, less_fraction(Fraction(2, 3))]), read_curve("1 - 3 t + t^3 e^(1/2)"), T,
                  read_curve("-2 + t^2"), read_curve("-e^(-1) + t - 3 t^2 e^(1/4) + e^(1)"), read_curve("-4 + e^(2)")]
        names = [moment for curve in curves for moment in noughts(curve)]
        chance.shuffle(names)
        for one in names:
            for other in names:
                order = compare(one, other)
                self.assertEqual(order, -compare(other, one))
                a, b = ends(finer(one, 15)), ends(finer(other, 15))
                if a[1] <= b[0]:
                    self.assertEqual(order, -1)
                elif b[1] <= a[0]:
                    self.assertEqual(order, 1)
                else:
                    self.assertEqual(order, 0)

    def test_the_fourth_fact(self):
        names = same_as_ln2() + [at((693147180559945309, 10 ** 18)), at((2, 3))]
        for one in names:
            for other in names:
                low = max(ends(one)[0], ends(other)[0])
                high = min(ends(one)[1], ends(other)[1])
                shared = common(one.curve, other.curve)
                same = low < high and sign_at(shared, pair(low)) * sign_at(shared, pair(high)) == -1
                self.assertEqual(compare(one, other) == 0, same)

    def test_too_many(self):
        third, half = ln2("-2 + e^(1/3)", NIL, (9, 1)), ln2("-2 + e^(1/2)", NIL, (9, 1))
        quarter = ln2("-2 + e^(1/4)", NIL, (9, 1))
        self.too_many(compare, third, half)
        self.too_many(compare, quarter, third)
        self.assertEqual(compare(half, quarter), -1)
        self.assertEqual(compare(quarter, half), 1)
        far = Moment(times(read_curve("-2 + e^(1/2)"), less_fraction(-900)), (-901, 1), (-899, 1))
        self.too_many(compare, far, third)
        self.too_many(compare, third, far)
        self.assertEqual(compare(at((-900, 1)), far), 0)


class SignThen(Case):

    def test_at_noughts(self):
        for moment in same_as_ln2():
            for other in [LN2, read_curve("-4 + e^(2)"), times(LN2, LN2), product([LN2, TWO, T]), NOUGHT,
                          times(LN2, rate(-300)), read_curve("-2 t + t e^(1)")]:
                self.assertEqual(sign_then(other, moment), 0)
                self.assertEqual(sign_then(scaled(other, (-1, 7)), moment), 0)
            for text, sign in [("1", 1), ("-3 e^(-2)", -1), ("t", 1), ("-7/10 + t", -1), ("-69/100 + t", 1),
                               ("-2 - t + e^(1)", -1), ("-3 + e^(1)", -1), ("-1 + e^(1)", 1), ("-1/2 + t^2", -1),
                               ("-4 e^(-4) + e^(4)", 1), ("-707/500 + e^(1/2)", 1), ("-283/200 + e^(1/2)", -1)]:
                self.assertEqual(sign_then(read_curve(text), moment), sign)
                self.assertEqual(sign_then(scaled(read_curve(text), (-9, 2)), moment), -sign)

    def test_close_beside(self):
        for gap in [Fraction(1, 10 ** 15), GAP]:
            for x in [Fraction(1, 3), Fraction(-999), Fraction(999)]:
                for near, sign in [(x, 0), (x + gap, -1), (x - gap, 1)]:
                    for curve in [less_fraction(near), times(less_fraction(near), read_curve("1 + t^2 + e^(1/4)"))]:
                        self.assertEqual(sign_then(curve, at(pair(x))), sign)
                        three = times(curve, times(curve, curve))
                        self.assertEqual(sign_then(three, at(pair(x))), sign)
        low, high = log_pair(Fraction(2))
        for moment in same_as_ln2():
            for x, sign in [(low - GAP, 1), (high + GAP, -1)]:
                x = Fraction(round(x * 10 ** 29), 10 ** 29)
                self.assertEqual(sign_then(less_fraction(x), moment), sign)
                self.assertEqual(sign_then(times(less_fraction(x), LN2), moment), 0)

    def test_at_0(self):
        names = [at(NIL), Moment(read_curve("-1 + e^(1)"), (-1, 1), (1, 1)), noughts(read_curve("-1 - t + e^(1)"))[0]]
        for moment in names:
            for curve in SMALL:
                worth_at_0 = sum([worth(c) for c, k, _ in curve.terms if k == 0])
                if all(q[1] in (1, 2, 4) for _, _, q in curve.terms):
                    self.assertEqual(sign_then(curve, moment), (worth_at_0 > 0) - (worth_at_0 < 0))
            self.assertEqual(sign_then(read_curve("-1 + 2 e^(1/2) - e^(1)"), moment), 0)

    def test_before_0(self):
        moment = Moment(TWO, (-1000, 1), (-1, 1))
        for text, sign in [("t", -1), ("t^2", 1), ("t^3", -1), ("2 + t", 1), ("3/2 + t", -1), ("-2 - t + e^(1)", 0),
                           ("-2 e^(-1/2) - t e^(-1/2) + e^(1/2)", 0), ("1/4 - t^3 - 100 e^(4)", 1), ("-6 - t^3", 1),
                           ("-1/6 + e^(1)", -1), ("-1/7 + e^(1)", 1)]:
            self.assertEqual(sign_then(read_curve(text), moment), sign, text)

    def test_as_fractions_tell(self):
        for curve in [SMALL[n] for n in (1, 2, 3, 4, 5, 6, 7)]:
            for x in [Fraction(n, 3) for n in range(-10, 11)]:
                self.assertEqual(sign_then(curve, at(pair(x))), sign_at(curve, pair(x)))

    def test_too_many(self):
        third = ln2("-2 + e^(1/3)", NIL, (9, 1))
        for text in ["1 + e^(1/2)", "e^(1/4)", "t + e^(1/3) - e^(5/4)"]:
            self.too_many(sign_then, read_curve(text), third)
        self.too_many(sign_then, plus(T, rate(Fraction(1, 5))), at(NIL))
        self.assertEqual(sign_then(NOUGHT, third), 0)
        self.assertEqual(sign_then(read_curve("-4 + e^(2/3)"), third), 0)
        self.assertEqual(sign_then(read_curve("-4 + e^(3/4)"), at(NIL)), -1)

    def test_great_curves(self):
        great = plus(power(T, 7), curve_of({(0, 0): -2}))
        moment = noughts(great)[1]
        self.assertEqual(sign_then(great, moment), 0)
        self.assertEqual(sign_then(slope(great), moment), 1)
        self.assertEqual(sign_then(stretched(great, (2, 1)), moment), 1)
        self.assertEqual(sign_then(plus(rate(1000), curve_of({(0, 0): -10 ** 29})), moment), 1)


class Finer(Case):

    def test_each_many(self):
        names = same_as_ln2() + [at(NIL), at((1, 3)), Moment(T, (-1000, 1), (1000, 1)), Moment(TWO, (-1000, 1), (-1, 1)),
                                 Moment(read_curve("-2 + t^2"), UNIT, (2, 1)), at((-999, 1)),
                                 Moment(read_curve("-1 - t - 1/2 t^2 + e^(1)"), (-1, 3), (7, 3))]
        for moment in names:
            for many in range(19):
                found = finer(moment, many)
                check_name(self, found)
                low, high = ends(found)
                self.assertLessEqual(high - low, Fraction(1, 10 ** many))
                self.assertEqual(compare(found, moment), 0)

    def test_with_close_noughts(self):
        x = Fraction(1, 3)
        three = product([less_fraction(x + GAP), less_fraction(x), less_fraction(x - GAP)])
        for many in (0, 9, 18):
            found = [finer(moment, many) for moment in noughts(three)]
            self.ascend(found)
            self.assertEqual([fraction_of(moment) for moment in found], [pair(x - GAP), pair(x), pair(x + GAP)])

    def test_not_changed(self):
        moment = ln2()
        finer(moment, 18)
        self.assertEqual((moment.curve, moment.low, moment.high), (LN2, NIL, (1, 1)))
        self.assertEqual(finer(moment, 18), finer(moment, 18))

    def test_no_number(self):
        for thing in no_numbers(18):
            with self.assertRaises(NoNumber):
                finer(ln2(), thing)


class FractionOf(Case):

    def test_fractions_named_by_curves_with_e(self):
        for x in [NIL, UNIT, (-7, 3), (999, 1), (-999, 1), (10 ** 29 + 1, 10 ** 29), (1, 10 ** 20), (-5, 10 ** 14 - 3)]:
            for other in ["1", "1 + t^2 + e^(1)", "-2 - t + 3 e^(1/2) + 4 t^3 e^(4)", "-2 + e^(1/3)"]:
                curve = plain(times(less_fraction(worth(x)), read_curve(other)))
                fractions = [fraction_of(moment) for moment in noughts(curve)]
                self.assertEqual([found for found in fractions if found is not None], [x])
        self.assertEqual(fraction_of(Moment(read_curve("-1 + e^(1)"), (-1, 1), (1, 1))), NIL)
        self.assertEqual(fraction_of(noughts(read_curve("-1 - t + e^(1)"))[0]), NIL)

    def test_of_several_roots(self):
        curve = product([less_fraction(Fraction(n, 7)) for n in (-9, -2, 3, 8)] + [read_curve("-2 + t^2")])
        self.assertEqual([fraction_of(moment) for moment in noughts(curve)],
                         [None, (-9, 7), (-2, 7), (3, 7), (8, 7), None])
        curve = product([curve_of({(1, 0): n, (0, 0): -1}) for n in (10 ** 29 + 1, 10 ** 29 + 3, 10 ** 28 + 7)])
        self.assertEqual([fraction_of(moment) for moment in noughts(curve)],
                         [(1, 10 ** 29 + 3), (1, 10 ** 29 + 1), (1, 10 ** 28 + 7)])

    def test_none(self):
        names = same_as_ln2() + noughts(TWO) + noughts(read_curve("-2 + t^2")) + noughts(read_curve("-1 + t e^(1)"))
        names += noughts(read_curve("-1 - t + t^3")) + noughts(plus(power(T, 6), curve_of({(0, 0): -2})))
        names += noughts(plus(power(T, 6), curve_of({(0, 1): -2})))
        names += noughts(curve_of({(2, 0): 10 ** 29, (0, 0): -10 ** 29 - 1}))
        # ends close to each other, and between them a fraction at which the curve is not nought
        names += [Moment(read_curve("-3 + t^2"), (8, 5), (41, 20)), Moment(read_curve("-3 + t^2"), (-41, 20), (-8, 5)),
                  Moment(read_curve("-101 + 100 t^2"), (999, 1000), (201, 200)),
                  Moment(read_curve("-8 + 2 t^3"), (3, 2), (17, 10))]
        for moment in names:
            self.assertIsNone(fraction_of(moment))


class PolynomialOf(Case):

    def check(self, moment):
        found = polynomial_of(moment)
        check_form(self, found)
        self.assertEqual(trimmed(found), found)
        self.assertEqual(plain(found), found)
        self.assertEqual({q for _, _, q in found.terms}, {NIL})
        self.assertEqual(sign_then(found, moment), 0)
        return found

    def test_that_are_there(self):
        names = [at(NIL), at((1, 3)), at((-999, 1)), Moment(read_curve("-1 + e^(1)"), (-1, 1), (1, 1)),
                 noughts(read_curve("-1 - t + e^(1)"))[0], noughts(times(T, read_curve("-1 + e^(1)")))[0]]
        names += noughts(read_curve("-2 + t^2")) + noughts(read_curve("-1 - t + t^3"))
        names += noughts(read_curve("4 - 2 t^2 - 2 e^(1) + t^2 e^(1)"))[:1]
        names += noughts(plus(power(T, 6), curve_of({(0, 0): -2})))
        for moment in names:
            self.check(moment)
        self.assertEqual(self.check(at(NIL)), T)
        for other in [LN2, TWO, read_curve("1 + t^2 e^(1/2)")]:
            curve = product([read_curve("-2 + t^2"), other, less_fraction(Fraction(5, 3)), T])
            found = [moment for moment in noughts(curve) if polynomial_of(moment) is not None]
            self.assertEqual(len(found), 4)
            for moment in found:
                self.assertIsNotNone(common(self.check(moment), bare(curve)))

    def test_none(self):
        names = same_as_ln2() + noughts(TWO) + noughts(read_curve("-1 + t e^(1)"))
        names += noughts(plus(power(T, 6), curve_of({(0, 1): -2})))
        for moment in names:
            self.assertIsNone(polynomial_of(moment))
        for number in [2, 3, Fraction(1, 2), 10 ** 28]:
            for q in [1, -1, Fraction(1, 2), Fraction(2, 3), Fraction(-3, 4), 4]:
                self.assertIsNone(polynomial_of(noughts(curve_of({(0, q): 1, (0, 0): -number}))[0]))
                self.assertIsNone(polynomial_of(noughts(curve_of({(1, abs(q)): 1, (0, 0): -1}))[0]))
        for moment in noughts(read_curve("-3 - 2 t + e^(1/2)")):
            self.assertIsNone(polynomial_of(moment))


class Answers(Case):

    def test_equal_calls(self):
        for moment in same_as_ln2() + [at((1, 3)), at(NIL)]:
            ahead = (moment.curve.terms, moment.low, moment.high)
            self.assertEqual(fraction_of(moment), fraction_of(moment))
            self.assertEqual(polynomial_of(moment), polynomial_of(moment))
            self.assertEqual(finer(moment, 5), finer(moment, 5))
            self.assertEqual(sign_then(TWO, moment), sign_then(TWO, moment))
            self.assertEqual(compare(moment, at((1, 2))), compare(moment, at((1, 2))))
            self.assertEqual((moment.curve.terms, moment.low, moment.high), ahead)

    def test_signs_are_integers(self):
        for found in [compare(ln2(), at(NIL)), compare(at(NIL), ln2()), compare(ln2(), ln2()), sign_then(T, ln2()),
                      sign_then(LN2, ln2()), sign_then(NOUGHT, ln2()), sign_then(T, at(NIL))]:
            self.assertIs(found.__class__, int)


if __name__ == "__main__":
    unittest.main()
