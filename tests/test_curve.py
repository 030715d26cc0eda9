"""Curve(terms) [1.1]."""

import unittest
from fractions import Fraction
from math import gcd

from namedmoments.curves import Curve
from namedmoments.errors import BadCurve
from tests.helpers import NIL, SMALL, UNIT, deep, no_fractions, odd_things, worth

EIGHT = tuple([((n + 1, 1), n % 4, (n // 4, 1)) for n in range(8)])
WRONG_C = [NIL, (0, 2), (2, 2), (2, 4), (1, 0), (1, -1), (-1, -1), (6, -4), 1, 0]
WRONG_K = [-1, 4, 5, 10 ** 29, -10 ** 29, True, False, None, "1", (1, 1), [1], (1,), b"1"]
WRONG_Q = [
    (2, 2), (0, 2), (0, 3), (2, 4), (1, 0), (0, 0), (1, -1), (-1, -2), (1, 5), (-1, 5), (1, 6),
    (1, 8), (5, 1), (-5, 1), (9, 2), (-9, 2), (13, 3), (-13, 3), (17, 4), (-17, 4), (10 ** 29, 1),
    (-10 ** 29, 1), (1, 10 ** 29), 0, 1,
]
WRONG_TERMS = [
    (), (UNIT,), (UNIT, 0), (UNIT, 0, NIL, 0), (UNIT, 0, NIL, NIL), [UNIT, 0, NIL],
    {0: UNIT, 1: 0, 2: NIL}, "abc", b"abc", 1, UNIT, (0, UNIT, NIL), (1, 1, 1), (UNIT, NIL, 0),
    (UNIT, UNIT, UNIT), ((UNIT, 0, NIL),),
]


class Curves(unittest.TestCase):

    def wrong(self, terms, index):
        with self.assertRaises(BadCurve) as got:
            Curve(terms)
        self.assertIs(got.exception.index.__class__, int)
        self.assertEqual(got.exception.index, index)

    def test_none_to_eight_terms(self):
        for many in range(9):
            terms = EIGHT[:many]
            self.assertEqual(Curve(terms).terms, terms)
            self.assertIs(Curve(terms).terms.__class__, tuple)

    def test_no_terms(self):
        self.assertEqual(Curve(()).terms, ())

    def test_every_k(self):
        for k in range(4):
            terms = (((-3, 7), k, (1, 2)),)
            self.assertEqual(Curve(terms).terms, terms)

    def test_every_q(self):
        right = 0
        for bottom in range(-6, 10):
            for top in range(-40, 41):
                terms = ((UNIT, 0, (top, bottom)),)
                fraction = bottom > 0 and gcd(top, bottom) == 1
                if fraction and bottom <= 4 and -4 * bottom <= top <= 4 * bottom:
                    self.assertEqual(Curve(terms).terms, terms)
                    right += 1
                else:
                    self.wrong(terms, 0)
        self.assertEqual(right, 9 + 8 + 16 + 16)

    def test_long_figures(self):
        for c in [(10 ** 29, 10 ** 29 - 1), (-(10 ** 30 - 1), 1), (1, 10 ** 30 - 1)]:
            terms = ((c, 3, (-4, 1)),)
            self.assertEqual(Curve(terms).terms, terms)

    def test_no_tuple(self):
        for thing in odd_things():
            if not isinstance(thing, tuple):
                self.wrong(thing, -1)
        for thing in [1, 0, [EIGHT[0]], list(EIGHT), {0: EIGHT[0]}, "terms", Curve(EIGHT)]:
            self.wrong(thing, -1)

    def test_nine_terms(self):
        nine = EIGHT + ((UNIT, 0, (2, 1)),)
        self.wrong(nine, -1)
        self.wrong((None,) * 9, -1)
        self.wrong((None,) + EIGHT, -1)
        self.wrong((0,) * 100000, -1)
        self.wrong((EIGHT[0],) * 10000, -1)

    def test_each_wrong_part(self):
        wrong = no_fractions()
        for c in WRONG_C + wrong:
            self.wrong(((c, 0, NIL),), 0)
            self.wrong(((UNIT, 0, NIL), (c, 1, NIL)), 1)
        for k in WRONG_K + odd_things():
            self.wrong(((UNIT, k, NIL),), 0)
            self.wrong(((UNIT, 0, NIL), (UNIT, k, UNIT)), 1)
        for q in WRONG_Q + wrong:
            self.wrong(((UNIT, 0, q),), 0)
            self.wrong(((UNIT, 0, (-4, 1)), (UNIT, 0, q)), 1)

    def test_lists_and_strings_in_the_place_of_tuples(self):
        self.wrong(([UNIT, 0, NIL],), 0)
        self.wrong((([1, 1], 0, NIL),), 0)
        self.wrong(((UNIT, 0, [0, 1]),), 0)
        self.wrong((("11", 0, NIL),), 0)
        self.wrong(((UNIT, 0, "01"),), 0)
        self.wrong(("abc",), 0)

    def test_each_wrong_term(self):
        for term in WRONG_TERMS + odd_things():
            self.wrong((term,), 0)
            self.wrong((term, EIGHT[1]), 0)
            self.wrong((EIGHT[0], EIGHT[1], term), 2)
            self.wrong(EIGHT[:7] + (term,), 7)

    def test_not_greater(self):
        for index in range(1, 8):
            terms = EIGHT[:index] + (EIGHT[index - 1],) + EIGHT[index + 1:]
            self.wrong(terms, index)
            swapped = EIGHT[:index - 1] + (EIGHT[index], EIGHT[index - 1]) + EIGHT[index + 1:]
            self.wrong(swapped, index)

    def test_equal_by_k_and_q_with_another_c(self):
        self.wrong((((1, 1), 2, (1, 3)), ((2, 1), 2, (1, 3))), 1)
        self.wrong((((-1, 1), 0, NIL), ((1, 1), 0, NIL)), 1)

    def test_q_goes_by_its_worth(self):
        rates = sorted({(top, bottom) for bottom in range(1, 5) for top in range(-16, 17)
                        if gcd(top, bottom) == 1 and abs(top) <= 4 * bottom}, key=worth)
        for one in rates:
            for other in rates:
                terms = ((UNIT, 1, one), (UNIT, 0, other))
                if Fraction(*one) < Fraction(*other):
                    self.assertEqual(Curve(terms).terms, terms)
                else:
                    self.wrong(terms, 1)

    def test_q_goes_ahead_of_k_and_c_does_not_count(self):
        terms = (((9, 1), 3, (-1, 2)), ((-9, 1), 0, (-1, 3)), ((-99, 1), 1, (-1, 3)))
        self.assertEqual(Curve(terms).terms, terms)
        self.wrong((((1, 1), 0, UNIT), ((1, 1), 1, NIL)), 1)

    def test_the_first_wrong_one(self):
        self.wrong((None, None), 0)
        self.wrong((EIGHT[0], None, None), 1)
        self.wrong((EIGHT[1], EIGHT[0], None), 1)
        self.wrong((EIGHT[1], None, EIGHT[0]), 1)
        self.wrong((EIGHT[0], EIGHT[2], EIGHT[1], (UNIT, True, NIL)), 2)

    def test_deep_and_wide_things(self):
        deep_tuple = deep(lambda thing: (thing,))
        wide = (0,) * 90000
        self.wrong(deep_tuple, 0)
        self.wrong((EIGHT[0], deep_tuple), 1)
        self.wrong((wide,), 0)
        self.wrong(((UNIT, 0, wide),), 0)
        self.wrong(((UNIT, wide, NIL),), 0)
        self.wrong(((wide, 0, NIL),), 0)
        self.wrong(((deep_tuple, deep_tuple, deep_tuple),), 0)
        self.wrong([deep_tuple], -1)

    def test_equal(self):
        for at, one in enumerate(SMALL):
            for place, other in enumerate(SMALL):
                again = Curve(other.terms)
                self.assertIs(one == again, at == place)
                self.assertIs(one != again, at != place)

    def test_unlike_in_one_part(self):
        one = Curve((((1, 2), 1, (1, 2)),))
        for terms in [(((1, 3), 1, (1, 2)),), (((-1, 2), 1, (1, 2)),), (((1, 2), 2, (1, 2)),),
                      (((1, 2), 1, (-1, 2)),), (), one.terms + ((UNIT, 0, UNIT),)]:
            self.assertFalse(one == Curve(terms))
            self.assertTrue(one != Curve(terms))

    def test_equal_to_nothing_of_another_class(self):
        class Alike:
            terms = SMALL[3].terms

        class Willing:
            def __eq__(self, other):
                return True

        for curve in (SMALL[0], SMALL[3]):
            for thing in odd_things() + [curve.terms, list(curve.terms), Alike(), Willing(), 0, 1]:
                if not isinstance(thing, Curve):
                    self.assertIs(curve == thing, False)
                    self.assertIs(curve != thing, True)

    def test_curves_have_their_own_terms(self):
        one = Curve(EIGHT[:2])
        other = Curve(EIGHT[:3])
        self.assertEqual(one.terms, EIGHT[:2])
        self.assertEqual(other.terms, EIGHT[:3])


if __name__ == "__main__":
    unittest.main()
