"""Trimmed curves, quotients and common parts [2.1]."""

import random
import unittest
from fractions import Fraction
from math import gcd, lcm

from namedmoments import common as module
from namedmoments.common import common, quotient, trimmed
from namedmoments.curves import Curve, plus, scaled, stretched, times
from namedmoments.errors import AllNought, TooMany
from tests.helpers import NIL, SMALL, UNIT, check_form, curve_of, less_fraction, many_terms, pair, power, product
from tests.helpers import rate, worth

NOUGHT = Curve(())
ONE = Curve(((UNIT, 0, NIL),))
T = Curve(((UNIT, 1, NIL),))


def steps(many, bottom):
    """e ^ (t / bottom) so many times with itself multiplied."""
    return rate(Fraction(many, bottom))


def less_one(curve):
    """A curve less 1."""
    return plus(curve, Curve((((-1, 1), 0, NIL),)))


def linear(a, b, c, d, q):
    """(a + b t) + (c + d t) e ^ (q t)."""
    return curve_of({(0, 0): a, (1, 0): b, (0, q): c, (1, q): d})


def pieces(chance, bottom):
    """Trimmed curves that nothing divides, each unlike the others."""
    found = [T]
    while len(found) < 5:
        if chance.random() < 0.3:
            new = less_fraction(Fraction(chance.choice([-7, -2, -1, 1, 3, 5]), chance.choice([1, 2, 3])))
        else:
            a, b, c, d = [chance.randint(-4, 4) for _ in range(4)]
            if a * d == b * c:
                continue
            new = linear(a, b, c, d, Fraction(1, bottom))
            if new.terms[0][2] == new.terms[-1][2]:
                continue
        new = trimmed(new)
        if new not in found:
            found.append(new)
    return found


def raised(curves, counts):
    """The product of some curves, each so many times."""
    return product([curve for curve, many in zip(curves, counts) for _ in range(many)])


def dressing(chance, bottom):
    """Some c e ^ (q t)."""
    c = Fraction(chance.choice([-9, -1, 1, 2, 10 ** 29]), chance.choice([1, 7]))
    return curve_of({(0, Fraction(chance.randint(-4 * bottom, 4 * bottom), bottom)): c})


class Case(unittest.TestCase):

    def same(self, found, expected):
        check_form(self, found)
        self.assertEqual(found.terms, expected.terms)

    def too_many(self, call, *curves):
        with self.assertRaises(TooMany) as got:
            call(*curves)
        self.assertEqual(got.exception.most, 4)
        self.assertIs(got.exception.most.__class__, int)


class Trimmed(Case):

    def test_least_q_and_last_c(self):
        for curve in SMALL[1:] + [many_terms()]:
            found = trimmed(curve)
            check_form(self, found)
            self.assertEqual(found.terms[0][2], NIL)
            self.assertEqual(found.terms[-1][0], UNIT)
            self.assertEqual(len(found.terms), len(curve.terms))
            least, last = curve.terms[0][2], curve.terms[-1][0]
            back = times(found, curve_of({(0, worth(least)): worth(last)}))
            self.assertEqual(back, curve)

    def test_each_kind(self):
        self.same(trimmed(ONE), ONE)
        self.same(trimmed(Curve((((-2, 3), 0, (-7, 2)),))), ONE)
        self.same(trimmed(Curve((((-2, 3), 3, (-7, 2)),))), Curve(((UNIT, 3, NIL),)))
        self.same(trimmed(Curve((((4, 1), 0, NIL), ((-2, 1), 1, NIL)))), less_fraction(2))
        one = Curve((((3, 1), 0, (1, 4)), ((1, 1), 3, (1, 4)), ((-1, 2), 1, (1, 3))))
        self.same(trimmed(one), plus(plus(Curve((((-2, 1), 3, NIL),)), Curve((((-6, 1), 0, NIL),))),
                                     times(T, rate(Fraction(1, 12)))))

    def test_trimmed_again(self):
        for curve in SMALL[1:]:
            self.same(trimmed(trimmed(curve)), trimmed(curve))
            for c, q in [((-7, 3), (5, 2)), ((1, 10 ** 29), (-4, 1)), ((-1, 1), (1, 3))]:
                self.same(trimmed(times(curve, Curve(((c, 0, q),)))), trimmed(curve))

    def test_great_bottoms_and_great_k(self):
        curve = plus(rate(Fraction(1, 59)), times(rate(Fraction(-1, 60)), power(T, 150)))
        found = trimmed(curve)
        self.assertEqual(found.terms, ((UNIT, 2 ** 150, NIL), (UNIT, 0, pair(Fraction(1, 59) + Fraction(1, 60)))))

    def test_all_nought(self):
        with self.assertRaises(AllNought):
            trimmed(NOUGHT)


class Quotients(Case):

    def test_that_are_there(self):
        for one in SMALL + [many_terms()]:
            for other in SMALL[1:] + [many_terms()]:
                self.same(quotient(times(one, other), other), one)

    def test_by_a_single_term(self):
        one = times(SMALL[8], Curve(((UNIT, 2, (1, 3)),)))
        self.same(quotient(one, Curve((((-3, 1), 2, (-4, 1)),))),
                  times(SMALL[8], curve_of({(0, Fraction(13, 3)): Fraction(-1, 3)})))
        self.assertIsNone(quotient(one, Curve(((UNIT, 3, (1, 3)),))))
        self.assertIsNone(quotient(ONE, T))
        self.same(quotient(T, T), ONE)
        self.same(quotient(ONE, rate(4)), rate(-4))
        self.same(quotient(ONE, rate(Fraction(1, 7))), rate(Fraction(-1, 7)))

    def test_that_are_not_there(self):
        for one, other in [
                (T, less_fraction(1)), (ONE, less_one(rate(1))), (less_one(rate(1)), less_one(rate(2))),
                (less_one(rate(3)), less_one(rate(2))), (plus(rate(2), ONE), plus(rate(1), ONE)),
                (SMALL[7], SMALL[8]), (SMALL[8], SMALL[7]), (plus(T, rate(1)), T),
                (less_one(times(T, rate(1))), T), (times(T, T), plus(T, rate(1))), (less_one(T), plus(T, T))]:
            self.assertIsNone(quotient(one, other), (one.terms, other.terms))
            self.assertIsNone(quotient(plus(times(one, SMALL[9]), ONE), SMALL[9]))

    def test_one_term_changed(self):
        for one in SMALL[1:]:
            for other in SMALL[7:]:
                both = times(one, other)
                for c, k, q in both.terms:
                    changed = plus(both, Curve((((1, 3), min(k, 3), (1, 4)),)))
                    self.assertIsNone(quotient(changed, other))

    def test_of_nought(self):
        for other in SMALL[1:]:
            self.same(quotient(NOUGHT, other), NOUGHT)
            self.same(quotient(plus(other, scaled(other, (-1, 1))), other), NOUGHT)

    def test_all_nought(self):
        for one in SMALL:
            with self.assertRaises(AllNought):
                quotient(one, NOUGHT)

    def test_with_other_bottoms(self):
        for bottom in [3, 5, 7, 12, 59, 60]:
            one = less_one(rate(1))
            other = less_one(steps(1, bottom))
            expected = curve_of({(0, Fraction(j, bottom)): 1 for j in range(bottom)})
            self.same(quotient(one, other), expected)
            self.assertIsNone(quotient(plus(one, T), other))
            self.assertIsNone(quotient(other, one))
        one = plus(plus(steps(1, 59), steps(-7, 60)), T)
        other = plus(plus(steps(1, 7), times(T, steps(5, 11))), Curve((((-2, 3), 0, NIL),)))
        both = times(one, other)
        self.same(quotient(both, one), other)
        self.same(quotient(both, other), one)
        self.assertIsNone(quotient(plus(both, steps(1, 59)), one))
        self.assertIsNone(quotient(plus(both, ONE), other))

    def test_in_classes(self):
        one = times(plus(steps(1, 5), plus(steps(1, 7), T)), less_one(rate(2)))
        self.same(quotient(one, less_one(rate(1))), times(plus(steps(1, 5), plus(steps(1, 7), T)), plus(rate(1), ONE)))
        self.assertIsNone(quotient(plus(one, steps(1, 11)), less_one(rate(1))))

    def test_far_q(self):
        one, other = less_one(rate(1000)), less_one(rate(Fraction(999)))
        both = times(one, other)
        self.assertEqual(quotient(both, one), other)
        self.assertEqual(len(quotient(one, less_one(rate(Fraction(5, 4)))).terms), 800)
        self.assertIsNone(quotient(one, other))
        self.assertIsNone(quotient(one, plus(plus(steps(1, 59), steps(1, 60)), ONE)))
        self.assertIsNone(quotient(plus(one, T), plus(plus(steps(1, 59), rate(60)), ONE)))

    def test_great_k(self):
        great = power(T, 200)
        one = times(great, SMALL[7])
        self.same(quotient(one, great), SMALL[7])
        self.same(quotient(one, SMALL[7]), great)
        self.same(quotient(times(one, T), one), T)
        self.assertIsNone(quotient(one, times(one, T)))
        self.same(quotient(plus(great, scaled(great, (2, 1))), great), Curve((((3, 1), 0, NIL),)))

    def test_long_figures(self):
        c = Curve((((10 ** 29 + 3, 10 ** 29 + 1), 1, (-1, 3)), ((-7, 10 ** 29), 0, (1, 2)), ((1, 3), 2, (7, 2))))
        for one in SMALL[1:]:
            both = times(one, times(c, c))
            self.same(quotient(both, c), times(one, c))
            self.same(quotient(both, one), times(c, c))


class Common(Case):

    def test_products_of_known_curves(self):
        chance = random.Random(3)
        for bottom in [1, 2, 3, 4] * 8:
            known = pieces(chance, bottom)
            counts = [[chance.randint(0, 2) for _ in known] for _ in range(2)]
            one = times(raised(known, counts[0]), dressing(chance, bottom))
            other = times(raised(known, counts[1]), dressing(chance, bottom))
            expected = trimmed(raised(known, [min(both) for both in zip(*counts)]))
            self.same(common(one, other), expected)
            self.same(common(other, one), expected)

    def test_divides_both(self):
        for one in SMALL[1:]:
            for other in SMALL[1:]:
                bottoms = [term[2][1] for term in one.terms + other.terms]
                if lcm(*bottoms) > 4:
                    continue
                third = Curve((((2, 1), 1, (-1, 1)), ((3, 1), 0, (1, 1))))
                found = common(times(one, third), times(other, third))
                self.assertIsNotNone(quotient(found, third))
                self.assertIsNotNone(quotient(times(one, third), found))
                self.assertIsNotNone(quotient(times(other, third), found))
                self.assertEqual(trimmed(found), found)

    def test_nothing_in_common(self):
        for one, other in [(ONE, ONE), (T, less_fraction(1)), (T, rate(1)), (SMALL[7], T), (rate(1), rate(-3)),
                           (plus(T, rate(1)), plus(T, scaled(rate(1), (2, 1)))), (SMALL[7], ONE),
                           (less_one(rate(1)), plus(rate(1), ONE)), (less_one(rate(1)), T)]:
            self.same(common(one, other), ONE)
            self.same(common(other, one), ONE)

    def test_of_a_curve_and_itself(self):
        for one in SMALL[1:8]:
            self.same(common(one, one), trimmed(one))
            self.same(common(one, times(one, SMALL[7])), trimmed(one))
            self.same(common(scaled(one, (-3, 7)), times(one, rate(-2))), trimmed(one))

    def test_steps_less_one(self):
        for bottom in [1, 2, 3, 4]:
            for a in range(1, 13):
                for b in range(1, 13):
                    one, other = less_one(steps(a, bottom)), less_one(steps(b, bottom))
                    both = gcd(a, b)
                    self.same(common(one, other), less_one(steps(both, bottom)))
                    self.same(common(times(T, one), times(other, T)), times(T, less_one(steps(both, bottom))))

    def test_steps_and_one(self):
        for a in range(1, 13):
            for b in range(1, 13):
                one, other = less_one(steps(a, 4)), plus(steps(b, 4), ONE)
                both = gcd(a, b)
                expected = plus(steps(both, 4), ONE) if a // both % 2 == 0 else ONE
                self.same(common(one, other), expected)
                self.same(common(other, one), expected)

    def test_steps_far_away(self):
        self.same(common(less_one(rate(1000)), less_one(rate(750))), less_one(rate(250)))
        self.same(common(less_one(rate(-1000)), less_one(rate(Fraction(3001, 4)))), less_one(rate(Fraction(1, 4))))
        one = plus(rate(Fraction(801, 4)), plus(T, ONE))
        other = plus(rate(Fraction(599, 4)), times(T, T))
        both = plus(rate(Fraction(101, 2)), less_fraction(3))
        self.same(common(times(one, both), times(other, both)), both)
        self.same(common(one, other), ONE)

    def test_steps_far_away_with_few_powers(self):
        for both in [plus(rate(Fraction(1, 4)), Curve((((-3, 1), 0, NIL),))), less_one(rate(300)), less_fraction(Fraction(1, 7)),
                     plus(times(T, rate(Fraction(1001, 4))), ONE)]:
            one = plus(plus(rate(900), T), ONE)
            other = plus(plus(rate(-700), times(T, T)), rate(Fraction(1, 4)))
            self.same(common(times(one, both), times(other, both)), trimmed(both))
            self.same(common(times(one, times(both, both)), times(other, both)), trimmed(both))
            self.same(common(times(rate(1000), both), times(other, both)), trimmed(both))

    def test_bottoms_together(self):
        halves = plus(plus(T, rate(Fraction(1, 2))), ONE)
        quarters = plus(rate(Fraction(1, 4)), less_fraction(2))
        self.same(common(times(halves, quarters), times(halves, T)), halves)
        for a, b, both in [("1/2", "1/4", "1/4"), ("3/2", "9/4", "3/4"), ("2", "5/3", "1/3")]:
            self.same(common(less_one(rate(a)), less_one(rate(b))), less_one(rate(both)))
        found = common(Curve((((-1, 1), 2, NIL), (UNIT, 0, UNIT))), Curve(((UNIT, 1, NIL), (UNIT, 0, (1, 2)))))
        self.same(found, Curve(((UNIT, 1, NIL), (UNIT, 0, (1, 2)))))

    def test_with_nought(self):
        for one in SMALL[1:8]:
            self.same(common(one, NOUGHT), trimmed(one))
            self.same(common(NOUGHT, one), trimmed(one))
        with self.assertRaises(AllNought):
            common(NOUGHT, NOUGHT)

    def test_polynomials(self):
        one = product([less_fraction(1), less_fraction(1), less_fraction(Fraction(-2, 3)), T])
        other = product([less_fraction(1), less_fraction(Fraction(-2, 3)), less_fraction(Fraction(-2, 3)), T, T])
        expected = product([less_fraction(1), less_fraction(Fraction(-2, 3)), T])
        self.same(common(one, other), expected)
        self.same(common(times(one, rate(-3)), scaled(other, (-5, 7))), expected)
        self.same(common(times(one, less_one(rate(1))), other), expected)

    def test_long_figures(self):
        first = Curve((((10 ** 29 + 3, 10 ** 29 + 1), 1, (-1, 4)), ((-7, 10 ** 29), 0, (1, 2)), (UNIT, 2, (7, 2))))
        second = Curve((((10 ** 30 - 2, 7), 0, NIL), ((10 ** 29, 3), 3, (1, 2))))
        third = Curve((((1, 10 ** 30 - 1), 1, NIL), ((5, 3), 0, (3, 4))))
        self.same(common(times(first, second), times(first, third)), trimmed(first))
        self.same(common(times(times(first, first), second), times(first, second)), trimmed(times(first, second)))
        self.same(common(times(first, second), third), ONE)

    def test_great_k(self):
        great = power(T, 200)
        self.same(common(times(great, SMALL[7]), times(T, SMALL[7])), times(T, trimmed(SMALL[7])))
        self.same(common(great, times(great, SMALL[7])), great)
        self.same(common(plus(great, ONE), great), ONE)
        self.same(common(plus(great, rate(1)), plus(great, rate(2))), ONE)

    def test_too_many(self):
        rates = [Fraction(1, bottom) for bottom in range(1, 8)]
        for a in rates:
            for b in rates:
                one, other = plus(T, rate(a)), plus(T, rate(b))
                both = plus(one, other)
                if lcm(a.denominator, b.denominator) > 4:
                    for call in [(one, other), (other, one), (both, T), (T, both), (both, NOUGHT), (NOUGHT, both),
                                 (rate(a), rate(b)), (both, both)]:
                        self.too_many(common, *call)
                else:
                    self.assertIsInstance(common(one, other), Curve)
                    self.assertIsInstance(common(both, one), Curve)
        self.too_many(common, rate(Fraction(1, 60)), NOUGHT)
        self.too_many(common, rate(Fraction(1, 5)), rate(Fraction(1, 5)))

    def test_never_too_many_for_others(self):
        for bottom in range(1, 61):
            one = plus(T, plus(rate(Fraction(1, bottom)), rate(Fraction(7, 11))))
            other = plus(T, rate(Fraction(-1, 13)))
            self.assertEqual(trimmed(one), one)
            self.assertEqual(quotient(times(one, other), one), other)
            self.assertIsNone(quotient(one, other))


class EveryCall(unittest.TestCase):

    def test_nothing_is_changed_and_answers_are_equal(self):
        for one in SMALL[1:8]:
            for other in SMALL[1:8]:
                ahead = (one.terms, other.terms)
                again = [trimmed(one), quotient(one, other), quotient(times(one, other), other)]
                self.assertEqual([trimmed(one), quotient(one, other), quotient(times(one, other), other)], again)
                if lcm(*[term[2][1] for term in one.terms + other.terms]) <= 4:
                    self.assertEqual(common(one, other), common(one, other))
                self.assertIs(one.terms, ahead[0])
                self.assertIs(other.terms, ahead[1])

    def test_equal_curves_of_other_makes(self):
        one = Curve(((UNIT, 1, NIL), (UNIT, 0, (1, 2))))
        other = stretched(stretched(one, (4, 3)), (3, 4))
        self.assertEqual(common(one, other), one)
        self.assertEqual(worth(quotient(one, other).terms[0][0]), 1)

    def test_defined_where_they_are_listed(self):
        for name in ("trimmed", "common", "plain", "bare", "quotient"):
            self.assertEqual(getattr(module, name).__module__, "namedmoments.common")


if __name__ == "__main__":
    unittest.main()
