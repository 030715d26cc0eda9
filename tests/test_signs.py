"""What curves are worth, as far as signs go [3.1]."""

import random
import unittest
from decimal import MAX_EMAX, MIN_EMIN, Decimal, localcontext
from fractions import Fraction
from math import gcd

from namedmoments import signs
from namedmoments.common import bare
from namedmoments.curves import Curve, plus, scaled, slope, stretched, times
from namedmoments.errors import AllNought, NoFraction, NoNumber, NoSide
from namedmoments.signs import e_between, far_sign, order_at_nought, sign_at
from tests.helpers import NIL, SMALL, UNIT, curve_of, decimal_worth, less_fraction, many_terms, no_fractions
from tests.helpers import no_numbers, odd_things, pair, power, product, rate, series
from tests.test_common import NOUGHT, ONE, T, less_one

FAR_NUMBERS = [(1001, 1), (-1001, 1), (10 ** 29, 1), (-10 ** 29, 7), (1000 * 10 ** 20 + 1, 10 ** 20), (-2001, 2)]
PLACES = [
    NIL, UNIT, (-1, 1), (1, 2), (-1, 2), (2, 1), (-7, 3), (5, 4), (22, 7), (1000, 1), (-1000, 1), (999, 1), (-1999, 2),
    (1, 10 ** 29), (-1, 10 ** 29), (10 ** 29 + 1, 10 ** 29), (1 - 10 ** 29, 10 ** 29), (10 ** 30 - 1, 10 ** 29),
    (355, 113), (-1, 1000), (1, 3), (1000 * 10 ** 20 - 1, 10 ** 20),
]


def sign(number):
    """The sign of a number."""
    return (number > 0) - (number < 0)


class Powers(unittest.TestCase):

    def check(self, number, many):
        found = e_between(number, many)
        self.assertIs(found.__class__, tuple)
        self.assertEqual(len(found), 2)
        for fraction in found:
            self.assertIs(fraction.__class__, tuple)
            self.assertEqual(len(fraction), 2)
            top, bottom = fraction
            self.assertIs(top.__class__, int)
            self.assertIs(bottom.__class__, int)
            self.assertGreater(bottom, 0)
            self.assertEqual(gcd(top, bottom), 1)
        low, high = [Fraction(*fraction) for fraction in found]
        self.assertLessEqual(low, high)
        self.assertLessEqual(high - low, Fraction(1, 10 ** many))
        with localcontext() as context:
            context.prec = 520
            context.Emax, context.Emin = MAX_EMAX, MIN_EMIN
            raised = (Decimal(number[0]) / Decimal(number[1])).exp()
            little = Fraction(raised) / 10 ** 510
            self.assertLessEqual(low, Fraction(raised) + little)
            self.assertGreaterEqual(high, Fraction(raised) - little)
        if number != NIL:
            # e to a fraction is no fraction
            self.assertLess(low, high)
        else:
            self.assertLessEqual(low, 1)
            self.assertGreaterEqual(high, 1)

    def test_each_place(self):
        for number in PLACES:
            for many in (0, 7, 40):
                self.check(number, many)

    def test_each_many(self):
        for many in range(41):
            for number in [NIL, UNIT, (-1, 1), (1000, 1)]:
                self.check(number, many)

    def test_small_and_great_bottoms(self):
        chance = random.Random(23)
        for _ in range(60):
            bottom = chance.randint(1, 10 ** chance.choice([1, 5, 29]))
            number = pair(Fraction(chance.randint(-1000 * bottom, 1000 * bottom), bottom))
            self.check(number, chance.randint(0, 40))
            near = pair(Fraction(chance.randint(-9, 9), bottom))
            self.check(near, chance.randint(0, 40))

    def test_no_fraction(self):
        for thing in no_fractions() + FAR_NUMBERS:
            for many in (0, 40, -1, 41, None):
                with self.assertRaises(NoFraction):
                    e_between(thing, many)

    def test_no_number(self):
        for thing in no_numbers(40):
            for number in (NIL, UNIT, (-1000, 1)):
                with self.assertRaises(NoNumber):
                    e_between(number, thing)

    def test_equal_answers(self):
        for number in PLACES:
            self.assertEqual(e_between(number, 17), e_between(number, 17))


class Signs(unittest.TestCase):

    def check(self, curve, fraction, digits=300):
        found = sign_at(curve, pair(fraction))
        self.assertIs(found.__class__, int)
        self.assertEqual(found, sign(decimal_worth(curve, fraction, digits)), (curve.terms, fraction))

    def test_small_curves(self):
        for curve in SMALL + [many_terms()]:
            for number in PLACES:
                fraction = Fraction(*number)
                if fraction == 0:
                    start = series(curve.terms, 1)[0]
                    self.assertEqual(sign_at(curve, NIL), sign(start))
                elif curve != NOUGHT:
                    self.check(curve, fraction, 250)

    def test_nought_everywhere(self):
        for number in PLACES:
            self.assertEqual(sign_at(NOUGHT, number), 0)

    def test_random_curves(self):
        chance = random.Random(29)
        for _ in range(150):
            bottom = chance.choice([1, 2, 3, 4, 60])
            curve = curve_of({
                (chance.randint(0, 3), Fraction(chance.randint(-4 * bottom, 4 * bottom), bottom)):
                Fraction(chance.choice([-10 ** 29, -7, -1, 1, 3, 10 ** 20]), chance.choice([1, 7, 10 ** 29 + 1]))
                for _ in range(chance.randint(1, 8))})
            for _ in range(3):
                self.check(curve, Fraction(chance.randint(-999, 999), chance.choice([1, 7, 1000])), 100)

    def test_polynomials_at_and_beside_their_noughts(self):
        roots = [Fraction(1), Fraction(-2, 3), Fraction(5, 10 ** 20 + 1), Fraction(-999), Fraction(1, 3)]
        for c in (UNIT, (-3, 7)):
            one = scaled(product([less_fraction(root) for root in roots]), c)
            for root in roots:
                self.assertEqual(sign_at(one, pair(root)), 0)
                for distance in (Fraction(1, 10 ** 9), Fraction(1, 10 ** 29)):
                    for at in (root - distance, root + distance):
                        expected = sign(c[0])
                        for other in roots:
                            expected *= sign(at - other)
                        self.assertEqual(sign_at(one, pair(at)), expected)

    def test_products_at_and_beside_their_noughts(self):
        for root in [Fraction(1), Fraction(-2, 3), Fraction(7, 5), Fraction(-40), Fraction(10 ** 29 + 1, 10 ** 29)]:
            for times_nought in (1, 2, 3):
                for other in [SMALL[7], SMALL[9], plus(T, rate(Fraction(1, 7))), rate(-4)]:
                    one = times(product([less_fraction(root)] * times_nought), other)
                    self.assertEqual(sign_at(one, pair(root)), 0)
                    self.assertNotEqual(sign_at(other, pair(root)), 0)
                    for distance in (Fraction(1, 10 ** 9), Fraction(-1, 10 ** 9), Fraction(1, 10 ** 25)):
                        expected = sign(distance) ** times_nought * sign_at(other, pair(root + distance))
                        self.assertEqual(sign_at(one, pair(root + distance)), expected)

    def test_one_q_alone(self):
        one = times(curve_of({(2, 0): 4, (0, 0): -9}), rate(Fraction(-7, 2)))
        for number, expected in [((3, 2), 0), ((-3, 2), 0), (UNIT, -1), ((2, 1), 1), ((-1000, 1), 1), ((1000, 1), 1),
                                 (NIL, -1), ((149999, 100000), -1), ((150001, 100000), 1), ((-149999, 100000), -1)]:
            self.assertEqual(sign_at(one, number), expected)
        square = times(curve_of({(2, 0): 1, (0, 0): -2}), rate(3))
        near = Fraction(141421356237309504880168872420, 10 ** 29)
        self.assertEqual(sign_at(square, pair(near)), -1)
        self.assertEqual(sign_at(square, pair(near + Fraction(1, 10 ** 29))), 1)

    def test_some_lines_nought_and_others_not(self):
        one = plus(times(less_fraction(1), rate(3)), times(less_fraction(2), rate(-3)))
        self.assertEqual(sign_at(one, UNIT), -1)
        self.assertEqual(sign_at(one, (2, 1)), 1)
        two = plus(one, times(less_fraction(1), rate(-3)))
        self.assertEqual(sign_at(two, UNIT), -1)
        both = plus(times(less_fraction(1), rate(3)), times(product([less_fraction(1), T]), rate(-3)))
        self.assertEqual(sign_at(both, UNIT), 0)

    def test_close_to_moments_that_are_no_fractions(self):
        # e ^ t is 2 at 0.693147180559945309417232121458..
        one = plus(rate(1), curve_of({(0, 0): -2}))
        near = Fraction(693147180559945309417232121458, 10 ** 30)
        self.assertEqual(sign_at(one, pair(near)), -1)
        self.assertEqual(sign_at(one, pair(near + Fraction(1, 10 ** 30))), 1)
        for number in [UNIT, (-3, 7), (40, 1)]:
            low, high = e_between(number, 40)
            self.assertEqual(sign_at(plus(rate(1), scaled(ONE, (-low[0], low[1]))), number), 1)
            self.assertEqual(sign_at(plus(rate(1), scaled(ONE, (-high[0], high[1]))), number), -1)

    def test_close_to_nought(self):
        little = pair(Fraction(1, 10 ** 29))
        minus = pair(Fraction(-1, 10 ** 29))
        cube = plus(less_one(rate(1)), curve_of({(1, 0): -1, (2, 0): Fraction(-1, 2)}))
        self.assertEqual([sign_at(cube, number) for number in (minus, NIL, little)], [-1, 0, 1])
        square = plus(less_one(rate(1)), curve_of({(1, 0): -1}))
        self.assertEqual([sign_at(square, number) for number in (minus, NIL, little)], [1, 0, 1])
        eighth = power(less_one(rate(Fraction(1, 3))), 3)
        self.assertEqual([sign_at(eighth, number) for number in (minus, NIL, little)], [1, 0, 1])
        ninth = times(eighth, less_one(rate(-4)))
        self.assertEqual([sign_at(ninth, number) for number in (minus, NIL, little)], [1, 0, -1])

    def test_at_nought(self):
        self.assertEqual(sign_at(SMALL[7], NIL), -1)
        self.assertEqual(sign_at(less_one(rate(1)), NIL), 0)
        self.assertEqual(sign_at(plus(less_one(rate(1)), scaled(T, (-5, 1))), NIL), 0)
        self.assertEqual(sign_at(T, NIL), 0)
        self.assertEqual(sign_at(rate(-4), NIL), 1)

    def test_far_away(self):
        for curve in SMALL[1:]:
            for side in (1, -1):
                self.assertEqual(sign_at(curve, (1000 * side, 1)), far_sign(curve, side))
        far = plus(stretched(SMALL[7], (250, 1)), rate(-1000))
        self.assertEqual([sign_at(far, (n, 1)) for n in (-1000, 1000)], [1, 1])
        level = plus(rate(1000), scaled(rate(Fraction(59999, 60)), (-10 ** 29, 1)))
        self.assertEqual(sign_at(level, (1000, 1)), -1)
        self.assertEqual(sign_at(scaled(level, (-1, 1)), (1000, 1)), 1)
        self.assertEqual(sign_at(level, (-1000, 1)), -1)

    def test_great_k(self):
        great = power(curve_of({(3, 0): 1}), 200)
        near = (10 ** 29 + 1, 10 ** 29)
        one = plus(great, curve_of({(0, 0): -1}))
        for number, expected in [((1, 2), (1, 1, -1)), ((-1, 2), (1, -1, -1)), (UNIT, (1, 1, 0)), ((-1, 1), (1, -1, 0)),
                                 (NIL, (0, 0, -1)), ((-7, 3), (1, -1, 1)), (near, (1, 1, 1)), ((999, 1), (1, 1, 1))]:
            found = [sign_at(curve, number) for curve in (great, times(great, T), one)]
            self.assertEqual(found, list(expected))
        other = plus(great, less_one(rate(1)))
        for number, expected in [((1, 2), 1), ((-1, 2), -1), (UNIT, 1), ((-1, 1), 1), (NIL, 0), ((-7, 3), 1)]:
            self.assertEqual(sign_at(other, number), expected)

    def test_the_second_fact(self):
        for curve in [SMALL[7], times(SMALL[7], less_fraction(1)), times(SMALL[9], product([less_fraction(2), T]))]:
            for number in PLACES:
                if number != NIL:
                    self.assertEqual(sign_at(curve, number) == 0, sign_at(bare(curve), number) == 0)

    def test_no_fraction(self):
        for curve in (NOUGHT, SMALL[7], T):
            for thing in no_fractions() + FAR_NUMBERS:
                with self.assertRaises(NoFraction):
                    sign_at(curve, thing)


class FarSigns(unittest.TestCase):

    def both(self, curve, left, right):
        self.assertIs(far_sign(curve, 1).__class__, int)
        self.assertEqual((far_sign(curve, -1), far_sign(curve, 1)), (left, right), curve.terms)
        turned = scaled(curve, (-1, 3))
        self.assertEqual((far_sign(turned, -1), far_sign(turned, 1)), (-left, -right), curve.terms)

    def test_single_terms(self):
        for q in (NIL, (-4, 1), (1, 3), (4, 1)):
            for k in range(4):
                self.both(Curve((((2, 7), k, q),)), -1 if k % 2 else 1, 1)

    def test_each_kind_of_outgrowing_term(self):
        self.both(curve_of({(3, 0): 1, (2, 0): -100}), -1, 1)
        self.both(curve_of({(2, 0): -1, (1, 0): 100, (0, 0): 9}), -1, -1)
        self.both(curve_of({(0, 1): 1, (3, 0): -100}), 1, 1)
        self.both(curve_of({(0, 1): 1, (2, 0): -100}), -1, 1)
        self.both(curve_of({(0, -1): 1, (3, 0): -100}), 1, -1)
        self.both(curve_of({(1, -1): 1, (3, 0): -100}), -1, -1)
        self.both(curve_of({(0, Fraction(1, 3)): -1, (3, Fraction(1, 4)): 10 ** 20}), -1, -1)
        self.both(curve_of({(0, Fraction(-1, 3)): -1, (3, Fraction(-1, 4)): 10 ** 20}), -1, 1)
        self.both(curve_of({(0, 2): 1, (1, 2): -1, (2, -2): 1, (3, -2): -1}), 1, -1)
        self.both(curve_of({(0, 2): 1, (1, 2): 1, (2, -2): 1, (1, -2): -10 ** 9}), 1, 1)
        self.both(SMALL[7], 1, 1)
        self.both(power(T, 60), 1, 1)
        self.both(times(power(T, 60), T), -1, 1)

    def test_is_the_sign_far_away(self):
        for curve in SMALL[1:] + [many_terms()]:
            self.assertEqual(far_sign(curve, 1), sign_at(curve, (1000, 1)))
            self.assertEqual(far_sign(curve, -1), sign_at(curve, (-1000, 1)))

    def test_no_side(self):
        for thing in odd_things() + [0, 2, -2, 10 ** 29, (1, 1), (-1, 1), [1], "1", "-1", (1,)]:
            for curve in (SMALL[7], T):
                with self.assertRaises(NoSide):
                    far_sign(curve, thing)

    def test_all_nought(self):
        for side in [1, -1, 0, 2, True, None, "1", (1, 1)]:
            with self.assertRaises(AllNought):
                far_sign(NOUGHT, side)


class Orders(unittest.TestCase):

    def test_of_small_curves(self):
        for curve in SMALL[1:] + [many_terms()]:
            sums = series(curve.terms, 60)
            order = next(place for place, part in enumerate(sums) if part != 0)
            self.assertIs(order_at_nought(curve).__class__, int)
            self.assertEqual(order_at_nought(curve), order)

    def test_of_none_to_many(self):
        for many in range(12):
            for other, more in [(ONE, 0), (SMALL[7], 0), (less_one(rate(1)), 1), (T, 1), (rate(-3), 0),
                                (plus(less_one(rate(Fraction(1, 60))), scaled(T, (-1, 60))), 2)]:
                for part, each in [(T, 1), (less_one(rate(Fraction(7, 4))), 1),
                                   (plus(less_one(rate(-1)), T), 2)]:
                    self.assertEqual(order_at_nought(product([part] * many + [other])), each * many + more)

    def test_by_slopes(self):
        one = product([less_one(rate(1)), less_one(rate(2)), less_one(rate(-3)), T])
        self.assertEqual(order_at_nought(one), 4)
        for order in (3, 2, 1, 0):
            one = slope(one)
            self.assertEqual(order_at_nought(one), order)

    def test_of_series_cut_off(self):
        part = less_one(rate(1))
        factor = 1
        for k in range(1, 12):
            self.assertEqual(order_at_nought(part), k)
            factor *= k
            part = plus(part, curve_of({(k, 0): Fraction(-1, factor)}))

    def test_great_k(self):
        great = power(T, 200)
        self.assertEqual(order_at_nought(great), 2 ** 200)
        self.assertEqual(order_at_nought(times(great, less_one(rate(1)))), 2 ** 200 + 1)
        self.assertEqual(order_at_nought(plus(great, less_one(rate(1)))), 1)

    def test_all_nought(self):
        with self.assertRaises(AllNought):
            order_at_nought(NOUGHT)


class EveryCall(unittest.TestCase):

    def test_nothing_is_changed_and_answers_are_equal(self):
        for curve in SMALL[1:]:
            ahead = curve.terms
            again = [sign_at(curve, (5, 4)), far_sign(curve, 1), far_sign(curve, -1), order_at_nought(curve)]
            self.assertEqual(
                [sign_at(curve, (5, 4)), far_sign(curve, 1), far_sign(curve, -1), order_at_nought(curve)], again)
            self.assertIs(curve.terms, ahead)

    def test_defined_where_they_are_listed(self):
        for name in ("e_between", "sign_at", "far_sign", "order_at_nought"):
            self.assertEqual(getattr(signs, name).__module__, "namedmoments.signs")


if __name__ == "__main__":
    unittest.main()
