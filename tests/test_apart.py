"""Curves that have nothing in common [2.3]."""

import random
import unittest
from fractions import Fraction
from math import lcm

from namedmoments import apart as module
from namedmoments.apart import apart, is_apart
from namedmoments.common import bare, common
from namedmoments.curves import Curve, plus, scaled, times
from namedmoments.errors import AllNought, TooMany
from tests.helpers import NIL, SMALL, UNIT, check_form, curve_of, less_fraction, many_terms, no_fractions, power
from tests.helpers import product, rate
from tests.test_common import NOUGHT, ONE, T, dressing, less_one, pieces, raised


def few_bottoms(one, other):
    """Whether common parts of two curves are told."""
    return lcm(*[term[2][1] for term in one.terms + other.terms]) <= 4


class Case(unittest.TestCase):

    def right(self, one, other):
        """That apart tells what it should of two curves with nothing in common."""
        found = apart(one, other)
        self.assertIs(found.__class__, tuple)
        self.assertEqual(len(found), 3)
        for curve in found:
            check_form(self, curve)
        a, b, r = found
        self.assertEqual(plus(times(a, one), times(b, other)), r)
        self.assertGreater(len(r.terms), 0)
        self.assertTrue(all(q == NIL for _, _, q in r.terms))
        self.assertIs(is_apart(one, other, found), True)
        return found


class Apart(Case):

    def test_of_small_curves(self):
        seen = [0, 0]
        for one in SMALL[1:8]:
            for other in SMALL[1:8]:
                if few_bottoms(one, other):
                    if common(one, other) == ONE:
                        self.right(one, other)
                        seen[0] += 1
                    else:
                        self.assertIsNone(apart(one, other))
                        seen[1] += 1
        self.assertGreater(min(seen), 5)

    def test_none_just_where_there_is_a_common_part(self):
        chance = random.Random(17)
        seen = [0, 0]
        for bottom in [1, 2, 3, 4] * 8:
            known = pieces(chance, bottom)
            counts = [[chance.choice([0, 0, 1, 2]) for _ in known] for _ in range(2)]
            one = times(raised(known, counts[0]), dressing(chance, bottom))
            other = times(raised(known, counts[1]), dressing(chance, bottom))
            if any(min(both) > 0 for both in zip(*counts)):
                self.assertIsNone(apart(one, other))
                self.assertIsNone(apart(other, one))
                seen[0] += 1
            else:
                self.right(one, other)
                self.right(other, one)
                seen[1] += 1
        self.assertGreater(min(seen), 5)

    def test_of_random_curves(self):
        chance = random.Random(19)
        for many, bottom in [(1, 1), (2, 1), (2, 3), (3, 2), (4, 1), (3, 4), (8, 1)] * 3:
            curves = []
            for _ in range(2):
                places = [(chance.randint(0, 3), Fraction(chance.randint(-4 * bottom, 4 * bottom), bottom))
                          for _ in range(many)]
                curves.append(curve_of({place: Fraction(chance.choice([-7, -1, 2, 5]), chance.choice([1, 3]))
                                        for place in places}))
            if common(*curves) == ONE:
                self.right(*curves)
            else:
                self.assertIsNone(apart(*curves))

    def test_of_single_terms_and_polynomials(self):
        self.right(ONE, ONE)
        self.right(ONE, T)
        self.right(T, ONE)
        self.right(rate(3), rate(-4))
        self.right(times(T, rate(3)), rate(Fraction(-1, 2)))
        self.right(times(T, rate(3)), less_fraction(1))
        self.right(product([T, T, less_fraction(3)]), product([less_fraction(1), less_fraction(2)]))
        self.right(times(T, rate(1)), SMALL[7])
        self.right(SMALL[7], times(less_fraction(-2), rate(Fraction(7, 2))))
        self.assertIsNone(apart(T, times(T, rate(3))))
        self.assertIsNone(apart(T, times(T, T)))
        self.assertIsNone(apart(times(T, SMALL[7]), T))

    def test_with_polynomial_parts(self):
        one = product([T, T, less_fraction(1), less_one(rate(1))])
        other = product([less_fraction(2), less_fraction(-1), plus(rate(1), ONE)])
        a, b, r = self.right(one, other)
        self.right(times(one, one), other)
        self.assertIsNone(apart(one, times(other, T)))

    def test_of_unlike_steps(self):
        for a in range(1, 7):
            for b in range(1, 7):
                one = less_one(rate(Fraction(a, 4)))
                other = plus(rate(Fraction(b, 4)), curve_of({(0, 0): -3}))
                self.right(one, other)
                self.right(times(one, T), plus(other, times(T, T)))

    def test_far_q(self):
        self.right(plus(rate(1000), T), plus(rate(-1000), ONE))
        self.right(plus(rate(100), curve_of({(0, 0): -2})), plus(rate(Fraction(397, 4)), curve_of({(0, 0): 5})))

    def test_long_figures(self):
        one = Curve((((10 ** 29, 10 ** 30 - 1), 1, (-1, 4)), ((-7, 10 ** 29), 0, (1, 2)), (UNIT, 2, (3, 2))))
        other = Curve((((10 ** 29 + 1, 3), 0, NIL), ((-1, 10 ** 30 - 1), 3, (1, 2))))
        self.right(one, other)
        self.right(other, times(one, one))

    def test_great_k(self):
        great = power(T, 200)
        self.right(great, less_one(rate(1)))
        self.right(plus(great, rate(1)), plus(great, curve_of({(0, Fraction(1, 4)): 3})))
        self.assertIsNone(apart(great, times(great, rate(1))))

    def test_more_terms_than_callers_may_make(self):
        one = product([SMALL[7], SMALL[7], plus(T, rate(2))])
        other = product([plus(rate(1), ONE), plus(times(T, T), rate(-1))])
        self.assertGreater(len(one.terms), 8)
        self.right(one, other)
        a, b, r = self.right(other, one)
        self.assertIsNone(apart(times(a, one), times(b, one)))

    def test_the_main_fact(self):
        # at 1 both are nought, so their common part is
        self.assertEqual(common(times(SMALL[7], less_fraction(1)), less_fraction(1)), less_fraction(1))
        # at 0 both are nought, and yet they have nothing in common
        a, b, r = self.right(less_one(rate(1)), T)
        self.assertEqual(bare(r).terms[0][1] > 0, True)


class IsApart(unittest.TestCase):

    def test_right_triples(self):
        one, other = less_one(rate(1)), T
        self.assertIs(is_apart(one, other, (ONE, T, plus(less_one(rate(1)), times(T, T)))), False)
        self.assertIs(is_apart(one, other, (NOUGHT, ONE, T)), True)
        self.assertIs(is_apart(one, other, (NOUGHT, scaled(T, (-3, 7)), scaled(times(T, T), (-3, 7)))), True)
        self.assertIs(is_apart(T, other, (ONE, ONE, scaled(T, (2, 1)))), True)
        self.assertIs(is_apart(one, plus(rate(1), ONE), (curve_of({(0, 0): -1}), ONE, curve_of({(0, 0): 2}))), True)
        self.assertIs(is_apart(rate(3), rate(1), (rate(-3), NOUGHT, ONE)), True)
        self.assertIs(is_apart(rate(3), rate(1), (rate(-3), rate(-1), curve_of({(0, 0): 2}))), True)

    def test_whatever_their_common_part(self):
        self.assertIsNone(apart(T, times(T, T)))
        self.assertIs(is_apart(T, times(T, T), (ONE, ONE, plus(T, times(T, T)))), True)
        self.assertIs(is_apart(T, T, (ONE, NOUGHT, T)), True)
        self.assertIs(is_apart(T, T, (ONE, scaled(ONE, (-1, 1)), NOUGHT)), False)
        five = rate(Fraction(1, 5))
        self.assertIs(is_apart(five, rate(Fraction(1, 7)), (rate(Fraction(-1, 5)), NOUGHT, ONE)), True)
        self.assertIs(is_apart(five, rate(Fraction(1, 7)), (rate(Fraction(-1, 7)), NOUGHT, ONE)), False)

    def test_r_must_be_a_polynomial_that_is_not_nought(self):
        one, other = less_one(rate(1)), plus(T, rate(1))
        self.assertIs(is_apart(one, other, (ONE, NOUGHT, one)), False)
        self.assertIs(is_apart(one, other, (NOUGHT, ONE, other)), False)
        self.assertIs(is_apart(one, other, (other, scaled(one, (-1, 1)), NOUGHT)), False)
        self.assertIs(is_apart(one, other, (NOUGHT, NOUGHT, NOUGHT)), False)
        self.assertIs(is_apart(rate(1), other, (ONE, NOUGHT, rate(1))), False)
        self.assertIs(is_apart(rate(-1), other, (ONE, NOUGHT, rate(-1))), False)
        self.assertIs(is_apart(plus(rate(-1), plus(T, rate(1))), other,
                               (ONE, NOUGHT, plus(rate(-1), plus(T, rate(1))))), False)

    def test_one_thing_otherwise(self):
        pairs = [(less_one(rate(1)), plus(T, rate(1))), (SMALL[7], T), (plus(times(T, rate(2)), ONE), SMALL[7])]
        for one, other in pairs:
            right = apart(one, other)
            a, b, r = right
            self.assertIs(is_apart(one, other, right), True)
            for place in range(3):
                for new in [NOUGHT, plus(right[place], ONE), scaled(right[place], (-1, 1)), times(right[place], T),
                            times(right[place], rate(1)), right[place].terms, list(right[place].terms), None, 0,
                            plus(right[place], Curve((((1, 10 ** 29), 3, (4, 1)),)))]:
                    if new == right[place]:
                        continue
                    changed = right[:place] + (new,) + right[place + 1:]
                    self.assertIs(is_apart(one, other, changed), False, (place, new))
            for changed in [(b, a, r), (a, r, b), (r, b, a), (r, a, b), (b, r, a)]:
                self.assertIs(is_apart(one, other, changed), changed == right)
            self.assertIs(is_apart(other, one, (b, a, r)), True)
            self.assertIs(is_apart(other, one, right), a == b)
            double = tuple(scaled(part, (2, 3)) for part in right)
            self.assertIs(is_apart(one, other, double), True)
            for changed in [list(right), (a, b), (a, b, r, r), (right,), (a, b, (r,)), {0: a, 1: b, 2: r}, a, (),
                            (a.terms, b.terms, r.terms), iter(right), [a, b, r], (a, b, r.terms), ((a, b), r)]:
                self.assertIs(is_apart(one, other, changed), False)

    def test_things_of_any_kind(self):
        one, other = less_one(rate(1)), T
        for thing in no_fractions() + [0, 1, many_terms(), AllNought(), "abc", b"abc", (1, 2, 3), ("a", "b", "c")]:
            self.assertIs(is_apart(one, other, thing), False)
            self.assertIs(is_apart(one, other, (NOUGHT, ONE, thing)), False)
            self.assertIs(is_apart(one, other, (NOUGHT, thing, T)), False)
            if thing != NOUGHT:
                self.assertIs(is_apart(one, other, (thing, ONE, T)), False)
        self.assertIs(is_apart(one, other, (NOUGHT,) * 100000), False)

    def test_equal_curves_in_several_places(self):
        self.assertIs(is_apart(ONE, ONE, (ONE,) * 3), False)
        self.assertIs(is_apart(T, less_fraction(-1), (curve_of({(0, 0): -1}), ONE, ONE)), True)
        half = curve_of({(0, 0): Fraction(1, 2)})
        self.assertIs(is_apart(ONE, ONE, (half, half, ONE)), True)


class Errors(unittest.TestCase):

    def test_all_nought(self):
        for other in [T, NOUGHT, rate(Fraction(1, 5)), SMALL[9]]:
            for one, two in [(NOUGHT, other), (other, NOUGHT)]:
                with self.assertRaises(AllNought):
                    apart(one, two)
                for thing in [None, (), (ONE, ONE, ONE), (NOUGHT, NOUGHT, NOUGHT), [1], "text"]:
                    with self.assertRaises(AllNought):
                        is_apart(one, two, thing)

    def test_too_many(self):
        for one, other in [(rate(Fraction(1, 5)), T), (T, rate(Fraction(1, 60))), (SMALL[8], SMALL[8]), (ONE, SMALL[9]),
                           (rate(Fraction(1, 2)), rate(Fraction(1, 3))), (rate(Fraction(1, 4)), rate(Fraction(1, 3)))]:
            with self.assertRaises(TooMany) as got:
                apart(one, other)
            self.assertEqual(got.exception.most, 4)
            self.assertIs(is_apart(one, other, None), False)

    def test_nothing_is_changed_and_answers_are_equal(self):
        for one, other in [(SMALL[7], T), (less_one(rate(1)), plus(T, rate(1)))]:
            ahead = (one.terms, other.terms)
            again = apart(one, other)
            self.assertEqual(apart(one, other), again)
            parts = [curve.terms for curve in again]
            self.assertIs(is_apart(one, other, again), True)
            self.assertIs(one.terms, ahead[0])
            self.assertIs(other.terms, ahead[1])
            for curve, terms in zip(again, parts):
                self.assertIs(curve.terms, terms)

    def test_defined_where_they_are_listed(self):
        for name in ("apart", "is_apart"):
            self.assertEqual(getattr(module, name).__module__, "namedmoments.apart")


if __name__ == "__main__":
    unittest.main()
