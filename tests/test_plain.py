"""Plain curves and bare ones [2.2]."""

import random
import unittest
from fractions import Fraction

from namedmoments.common import bare, common, plain, quotient, trimmed
from namedmoments.curves import Curve, plus, scaled, slope, times
from namedmoments.errors import AllNought, TooMany
from namedmoments.signs import order_at_nought, sign_at
from tests.helpers import NIL, SMALL, UNIT, check_form, curve_of, less_fraction, pair, power, product, rate
from tests.test_common import NOUGHT, ONE, T, dressing, less_one, pieces, raised

CUBE = plus(less_one(rate(1)), curve_of({(1, 0): -1, (2, 0): Fraction(-1, 2)}))


def polynomial(curve):
    """Whether a curve has no q but 0."""
    return all(q == NIL for _, _, q in curve.terms)


class Case(unittest.TestCase):

    def same(self, found, expected):
        check_form(self, found)
        self.assertEqual(found.terms, expected.terms)


class Plain(Case):

    def test_of_products_with_parts_several_times(self):
        chance = random.Random(11)
        for bottom in [1, 2, 3, 4] * 6:
            known = pieces(chance, bottom)
            counts = [chance.randint(0, 3) for _ in known]
            one = times(raised(known, counts), dressing(chance, bottom))
            expected = trimmed(raised(known, [min(1, many) for many in counts]))
            self.same(plain(one), expected)
            self.same(plain(plain(one)), expected)

    def test_of_polynomials(self):
        one = product([less_fraction(1)] * 3 + [less_fraction(Fraction(-2, 3))] + [T] * 2)
        self.same(plain(one), product([less_fraction(1), less_fraction(Fraction(-2, 3)), T]))
        square = curve_of({(2, 0): 1, (0, 0): -2})
        self.same(plain(product([square, square, T])), times(square, T))
        self.same(plain(times(square, scaled(rate(-4), (-3, 7)))), square)

    def test_of_single_terms(self):
        for k in range(4):
            for q in (NIL, (-4, 1), (1, 3), (3, 2)):
                for c in (UNIT, (-7, 3)):
                    self.same(plain(Curve(((c, k, q),))), T if k else ONE)

    def test_of_what_is_plain(self):
        for one in [T, less_fraction(5), SMALL[7], less_one(rate(1)), plus(T, rate(Fraction(1, 4))),
                    plus(T, rate(-3)), plus(rate(2), ONE), times(SMALL[7], T), less_one(rate(Fraction(40, 3)))]:
            self.same(plain(one), trimmed(one))
            self.same(plain(plain(one)), plain(one))
            self.same(plain(times(one, one)), trimmed(one))

    def test_is_the_quotient_that_the_point_tells(self):
        for one in SMALL[1:8]:
            for other in SMALL[1:8]:
                both = product([one, other, other])
                try:
                    part = common(both, slope(both))
                except TooMany:
                    continue
                self.same(plain(both), trimmed(quotient(both, part)))
                self.same(plain(plain(both)), plain(both))

    def test_nought_at_nought_many_times(self):
        self.assertEqual(order_at_nought(CUBE), 3)
        self.same(plain(CUBE), trimmed(CUBE))
        self.same(plain(times(CUBE, CUBE)), trimmed(CUBE))
        both = times(T, less_one(rate(1)))
        self.assertEqual(order_at_nought(both), 2)
        self.same(plain(both), both)
        self.same(plain(product([T, T, less_one(rate(1)), less_one(rate(1))])), both)
        self.same(plain(times(T, CUBE)), times(T, trimmed(CUBE)))
        # parts in common: e ^ (2 t) - 1 has the part e ^ t - 1
        self.same(plain(times(less_one(rate(2)), less_one(rate(1)))), less_one(rate(2)))

    def test_steps(self):
        for a in range(1, 9):
            for b in range(1, 9):
                one = times(less_one(rate(Fraction(a, 4))), less_one(rate(Fraction(b, 4))))
                expected = quotient(one, common(less_one(rate(Fraction(a, 4))), less_one(rate(Fraction(b, 4)))))
                self.same(plain(one), expected)

    def test_the_first_fact(self):
        one = product([less_fraction(1)] * 2 + [less_fraction(Fraction(1, 2))] * 3 + [SMALL[7]] * 2)
        found = plain(one)
        for number in (UNIT, (1, 2)):
            self.assertEqual(sign_at(one, number), 0)
            self.assertEqual(sign_at(found, number), 0)
            top, bottom = number
            near = (10 ** 20 * top, 10 ** 20 * bottom)
            ahead, behind = pair(Fraction(near[0] - 1, near[1])), pair(Fraction(near[0] + 1, near[1]))
            self.assertEqual(sign_at(found, ahead), -sign_at(found, behind))
        for number in [(3, 1), (-3, 1), (2, 3), (-1, 2), NIL]:
            self.assertEqual(sign_at(one, number) == 0, sign_at(found, number) == 0)

    def test_great_k(self):
        great = power(T, 200)
        self.same(plain(great), T)
        self.same(plain(times(great, SMALL[7])), times(T, trimmed(SMALL[7])))
        self.same(plain(plus(great, rate(1))), plus(great, rate(1)))

    def test_many_times(self):
        self.same(plain(power(plus(rate(Fraction(1, 4)), ONE), 7)), plus(rate(Fraction(1, 4)), ONE))
        self.same(plain(power(plus(T, rate(1)), 4)), plus(T, rate(1)))

    def test_errors(self):
        with self.assertRaises(AllNought):
            plain(NOUGHT)
        for one in [rate(Fraction(1, 5)), plus(rate(Fraction(1, 2)), rate(Fraction(1, 3))),
                    product([T, T, rate(Fraction(1, 60))]), SMALL[8], SMALL[9]]:
            with self.assertRaises(TooMany) as got:
                plain(one)
            self.assertEqual(got.exception.most, 4)
        for bottom in (1, 2, 3, 4):
            self.same(plain(rate(Fraction(1, bottom))), ONE)


class Bare(Case):

    def test_of_products(self):
        chance = random.Random(13)
        for bottom in [1, 2, 3, 4] * 6:
            known = pieces(chance, bottom)
            counts = [chance.randint(0, 3) for _ in known]
            one = times(raised(known, counts), dressing(chance, bottom))
            expected = raised(known, [many if polynomial(part) else 0 for part, many in zip(known, counts)])
            self.same(bare(one), expected)
            self.same(bare(bare(one)), expected)

    def test_of_polynomials_and_single_terms(self):
        one = product([less_fraction(1)] * 3 + [less_fraction(Fraction(-2, 3))] + [T] * 2)
        self.same(bare(one), one)
        self.same(bare(scaled(one, (-7, 2))), one)
        self.same(bare(times(one, rate(Fraction(-7, 2)))), one)
        for k in range(4):
            for q in (NIL, (-4, 1), (1, 3), (3, 2)):
                self.same(bare(Curve((((-7, 3), k, q),))), Curve(((UNIT, k, NIL),)))

    def test_of_what_has_none(self):
        for one in [SMALL[7], SMALL[8], SMALL[9], less_one(rate(1)), rate(3), ONE, plus(T, rate(1)),
                    plus(rate(1), ONE)]:
            self.same(bare(one), ONE)

    def test_with_great_bottoms(self):
        square = curve_of({(2, 0): 1, (0, 0): -2})
        for bottom in (5, 12, 59, 60):
            one = plus(plus(times(T, rate(Fraction(1, bottom))), rate(Fraction(7, 11))), ONE)
            self.same(bare(one), ONE)
            self.same(bare(product([one, square, T])), times(square, T))

    def test_of_different_lines(self):
        one = plus(times(product([less_fraction(1), less_fraction(2), T]), rate(1)),
                   times(product([less_fraction(2), T, T]), rate(Fraction(1, 7))))
        self.same(bare(one), times(less_fraction(2), T))
        self.same(bare(plus(one, less_fraction(2))), less_fraction(2))
        self.same(bare(plus(one, ONE)), ONE)

    def test_divides(self):
        for one in SMALL[1:]:
            for other in SMALL[1:4]:
                both = times(one, other)
                self.assertIsNotNone(quotient(both, bare(both)))
                self.assertIsNotNone(quotient(bare(both), bare(other)))
                self.assertEqual(trimmed(bare(both)), bare(both))
                self.assertTrue(polynomial(bare(both)))

    def test_great_k(self):
        great = power(T, 200)
        self.same(bare(times(great, SMALL[7])), great)
        self.same(bare(plus(great, rate(1))), ONE)
        self.same(bare(times(plus(great, ONE), rate(2))), plus(great, ONE))

    def test_long_figures(self):
        one = curve_of({(0, 0): Fraction(10 ** 29, 10 ** 30 - 1), (1, 0): 1})
        other = curve_of({(0, 0): Fraction(-(10 ** 29 - 1), 7), (3, 0): 1})
        self.same(bare(product([one, other, SMALL[9]])), times(one, other))

    def test_all_nought(self):
        with self.assertRaises(AllNought):
            bare(NOUGHT)


class EveryCall(unittest.TestCase):

    def test_nothing_is_changed_and_answers_are_equal(self):
        for one in SMALL[1:8]:
            both = times(one, one)
            ahead = both.terms
            self.assertEqual(bare(both), bare(both))
            if both.terms[0][2][1] <= 4:
                self.assertEqual(plain(both), plain(both))
            self.assertIs(both.terms, ahead)


if __name__ == "__main__":
    unittest.main()
