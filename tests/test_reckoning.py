"""The reckoning with curves [1.2], and what is promised of every call [0.3, 0.4]."""

import unittest
from fractions import Fraction

from namedmoments import curves
from namedmoments.curves import Curve, area, at_nought, plus, scaled, slope, stretched, times
from namedmoments.errors import BadCurve, NoFraction
from tests.helpers import NIL, NUMBERS, SMALL, UNIT, check_form, many_terms, no_fractions
from tests.helpers import pair, power, series, worth

DEPTH = 40
GREAT = SMALL + [many_terms(), times(many_terms(), SMALL[5])]


class Case(unittest.TestCase):

    def same(self, curve, sums):
        """That a curve is in order, and has these first figures of its power series."""
        check_form(self, curve)
        self.assertEqual(series(curve.terms, len(sums)), sums)

    def terms(self, curve, terms):
        check_form(self, curve)
        self.assertEqual(curve.terms, terms)


class Sums(Case):

    def test_by_series(self):
        for one in GREAT:
            for other in GREAT:
                rows = zip(series(one.terms, DEPTH), series(other.terms, DEPTH))
                self.same(plus(one, other), [a + b for a, b in rows])

    def test_cancelling(self):
        for one in GREAT:
            self.terms(plus(one, scaled(one, (-1, 1))), ())
        one = Curve((((1, 2), 1, NIL), ((1, 3), 0, UNIT), ((1, 4), 2, (3, 2))))
        other = Curve((((-1, 2), 1, NIL), ((1, 6), 0, UNIT), ((-1, 4), 2, (3, 2))))
        self.terms(plus(one, other), (((1, 2), 0, UNIT),))

    def test_nought(self):
        nought = Curve(())
        self.terms(plus(nought, nought), ())
        for one in GREAT:
            self.assertEqual(plus(one, nought), one)
            self.assertEqual(plus(nought, one), one)

    def test_order_by_worth_of_q(self):
        one = Curve((((1, 1), 3, (-1, 2)), ((1, 1), 1, (1, 3))))
        other = Curve((((1, 1), 2, (-1, 3)), ((2, 1), 0, (1, 3)), ((1, 1), 0, (1, 2))))
        self.terms(plus(other, one), (
            ((1, 1), 3, (-1, 2)), ((1, 1), 2, (-1, 3)), ((2, 1), 0, (1, 3)),
            ((1, 1), 1, (1, 3)), ((1, 1), 0, (1, 2)),
        ))

    def test_more_than_eight_terms(self):
        terms = [((n + 1, 1), n % 4, (n // 4, 1)) for n in range(16)]
        self.terms(plus(Curve(tuple(terms[8:])), Curve(tuple(terms[:8]))), tuple(terms))


class Products(Case):

    def test_by_series(self):
        for one in GREAT:
            for other in GREAT:
                a, b = series(one.terms, DEPTH), series(other.terms, DEPTH)
                sums = [sum(a[j] * b[n - j] for j in range(n + 1)) for n in range(DEPTH)]
                self.same(times(one, other), sums)

    def test_nought_and_one(self):
        nought, unit = Curve(()), Curve(((UNIT, 0, NIL),))
        for one in GREAT:
            self.terms(times(one, nought), ())
            self.terms(times(nought, one), ())
            self.assertEqual(times(one, unit), one)
            self.assertEqual(times(unit, one), one)

    def test_cancelling(self):
        one = Curve(((UNIT, 0, NIL), (UNIT, 1, (1, 2))))
        other = Curve(((UNIT, 0, NIL), ((-1, 1), 1, (1, 2))))
        self.terms(times(one, other), ((UNIT, 0, NIL), ((-1, 1), 2, UNIT)))

    def test_more_than_eight_terms(self):
        one = Curve(tuple([((1, 1), 0, (n, 1)) for n in range(-4, 4)]))
        other = Curve(tuple([((1, 1), 0, pair(Fraction(n, 4))) for n in range(4)]))
        expected = [((1, 1), 0, pair(Fraction(n, 4))) for n in range(-16, 16)]
        self.terms(times(one, other), tuple(expected))

    def test_greater_k_and_other_q(self):
        one = Curve((((2, 3), 3, (7, 2)),))
        other = Curve((((3, 2), 3, (11, 3)),))
        self.terms(times(one, other), ((UNIT, 6, (43, 6)),))
        with self.assertRaises(BadCurve):
            Curve(times(one, other).terms)

    def test_doubled_often(self):
        one = power(Curve((((-1, 1), 3, (-4, 1)),)), 200)
        self.terms(one, ((UNIT, 3 * 2 ** 200, (-4 * 2 ** 200, 1)),))
        self.terms(slope(one), (
            ((3 * 2 ** 200, 1), 3 * 2 ** 200 - 1, (-4 * 2 ** 200, 1)),
            ((-4 * 2 ** 200, 1), 3 * 2 ** 200, (-4 * 2 ** 200, 1)),
        ))
        self.terms(stretched(one, (-1, 1)), ((UNIT, 3 * 2 ** 200, (4 * 2 ** 200, 1)),))

    def test_long_figures(self):
        one = power(Curve((((10 ** 29 + 1, 10 ** 29), 0, NIL),)), 9)
        top, bottom = (10 ** 29 + 1) ** 512, 10 ** (29 * 512)
        self.assertTrue(one.terms == (((top, bottom), 0, NIL),))
        self.assertTrue(at_nought(one) == (top, bottom))
        self.assertTrue(area(one).terms == ((((top, bottom)), 1, NIL),))
        self.assertTrue(scaled(one, (bottom, top)).terms == ((UNIT, 0, NIL),))


class Scales(Case):

    def test_by_series(self):
        for one in GREAT:
            for number in NUMBERS:
                sums = [worth(number) * part for part in series(one.terms, DEPTH)]
                self.same(scaled(one, number), sums)

    def test_by_nought(self):
        for one in GREAT:
            self.terms(scaled(one, NIL), ())

    def test_below_nought(self):
        one = Curve((((-2, 3), 0, NIL), ((5, 7), 2, (1, 2))))
        self.terms(scaled(one, (-3, 2)), ((UNIT, 0, NIL), ((-15, 14), 2, (1, 2))))

    def test_no_fraction(self):
        for one in (SMALL[0], SMALL[7], GREAT[-1]):
            for thing in no_fractions():
                with self.assertRaises(NoFraction):
                    scaled(one, thing)


class Stretches(Case):

    def test_by_series(self):
        for one in GREAT:
            for number in NUMBERS[1:]:
                rows = enumerate(series(one.terms, DEPTH))
                self.same(stretched(one, number), [a * worth(number) ** n for n, a in rows])

    def test_below_nought(self):
        one = Curve((((1, 1), 1, (-1, 2)), ((1, 1), 2, (-1, 2)), ((1, 1), 3, (1, 3))))
        self.terms(stretched(one, (-2, 1)), (
            ((-8, 1), 3, (-2, 3)), ((-2, 1), 1, UNIT), ((4, 1), 2, UNIT),
        ))

    def test_there_and_back(self):
        for one in GREAT:
            for top, bottom in NUMBERS[1:]:
                sign = 1 if top > 0 else -1
                back = stretched(stretched(one, (top, bottom)), (sign * bottom, sign * top))
                self.terms(back, one.terms)

    def test_no_fraction(self):
        for one in (SMALL[0], SMALL[7], GREAT[-1]):
            for thing in no_fractions() + [NIL]:
                with self.assertRaises(NoFraction):
                    stretched(one, thing)


class Slopes(Case):

    def test_by_series(self):
        for one in GREAT:
            sums = series(one.terms, DEPTH + 1)
            self.same(slope(one), [n * sums[n] for n in range(1, DEPTH + 1)])

    def test_each_kind_of_term(self):
        for k in range(1, 4):
            self.terms(slope(Curve((((1, 2), k, NIL),))), ((pair(Fraction(k, 2)), k - 1, NIL),))
        self.terms(slope(Curve((((1, 2), 0, NIL),))), ())
        self.terms(slope(Curve(())), ())
        self.terms(slope(Curve((((1, 2), 0, (-3, 4)),))), (((-3, 8), 0, (-3, 4)),))
        self.terms(slope(Curve((((1, 2), 1, (2, 1)),))), (((1, 2), 0, (2, 1)), (UNIT, 1, (2, 1))))
        self.terms(slope(Curve((((1, 3), 3, (-1, 1)),))), ((UNIT, 2, (-1, 1)), ((-1, 3), 3, (-1, 1))))

    def test_cancelling(self):
        one = Curve((((-1, 1), 0, UNIT), (UNIT, 1, UNIT)))
        self.terms(slope(one), ((UNIT, 1, UNIT),))

    def test_greater_k(self):
        one = times(Curve(((UNIT, 3, NIL),)), Curve(((UNIT, 3, (4, 1)),)))
        self.terms(slope(one), (((6, 1), 5, (4, 1)), ((4, 1), 6, (4, 1))))


class Areas(Case):

    def test_by_series(self):
        for one in GREAT:
            sums = series(one.terms, DEPTH)
            self.same(area(one), [0] + [sums[n] / (n + 1) for n in range(DEPTH)])

    def test_slope_of_an_area_and_its_start(self):
        for one in GREAT:
            self.terms(slope(area(one)), one.terms)
            self.terms(slope(slope(area(area(one)))), one.terms)
            self.assertEqual(at_nought(area(one)), NIL)

    def test_area_of_a_slope(self):
        for one in GREAT:
            start = at_nought(one)
            back = area(slope(one))
            rest = () if start == NIL else ((start, 0, NIL),)
            self.assertEqual(plus(back, Curve(rest)), one)

    def test_each_kind_of_term(self):
        for k in range(4):
            self.terms(area(Curve((((1, 2), k, NIL),))), (((1, 2 * k + 2), k + 1, NIL),))
        self.terms(area(Curve(())), ())
        self.terms(area(Curve(((UNIT, 0, (-1, 2)),))), (((-2, 1), 0, (-1, 2)), ((2, 1), 0, NIL)))
        self.terms(area(Curve(((UNIT, 1, UNIT),))), (
            (UNIT, 0, NIL), ((-1, 1), 0, UNIT), (UNIT, 1, UNIT),
        ))
        self.terms(area(Curve(((UNIT, 2, (2, 1)),))), (
            ((-1, 4), 0, NIL), ((1, 4), 0, (2, 1)), ((-1, 2), 1, (2, 1)), ((1, 2), 2, (2, 1)),
        ))

    def test_starts_that_cancel(self):
        one = Curve((((-1, 1), 0, (-1, 1)), (UNIT, 0, UNIT)))
        self.terms(area(one), ((UNIT, 0, (-1, 1)), ((-2, 1), 0, NIL), (UNIT, 0, UNIT)))
        self.terms(area(Curve((((1, 1), 0, (-1, 1)), (UNIT, 0, UNIT)))), (
            ((-1, 1), 0, (-1, 1)), (UNIT, 0, UNIT),
        ))

    def test_greater_k(self):
        one = power(Curve(((UNIT, 3, UNIT),)), 5)
        self.assertEqual(len(area(one).terms), 98)
        self.terms(slope(area(one)), ((UNIT, 96, (32, 1)),))
        other = power(Curve(((UNIT, 3, NIL),)), 5)
        self.terms(area(other), (((1, 97), 97, NIL),))


class Starts(unittest.TestCase):

    def test_by_series(self):
        for one in GREAT:
            self.assertEqual(at_nought(one), pair(series(one.terms, 1)[0]))

    def test_each_kind_of_term(self):
        self.assertEqual(at_nought(Curve(())), NIL)
        for q in (NIL, (-4, 1), (1, 3)):
            self.assertEqual(at_nought(Curve((((-2, 3), 0, q),))), (-2, 3))
            for k in range(1, 4):
                self.assertEqual(at_nought(Curve((((-2, 3), k, q),))), NIL)

    def test_lowest_terms(self):
        one = Curve((((1, 6), 0, NIL), ((1, 3), 0, UNIT), ((-1, 2), 0, (2, 1)), ((5, 1), 1, (2, 1))))
        self.assertEqual(at_nought(one), NIL)
        other = Curve((((1, 6), 0, NIL), ((1, 3), 0, UNIT)))
        self.assertEqual(at_nought(other), (1, 2))
        self.assertIs(at_nought(other).__class__, tuple)


class EveryCall(unittest.TestCase):

    def calls(self, one, other):
        return [
            plus(one, other), times(one, other), scaled(one, (-2, 3)), stretched(one, (-2, 3)),
            slope(one), area(one), at_nought(one), one == other,
        ]

    def test_arguments_are_not_changed(self):
        for one in GREAT:
            for other in GREAT:
                ahead = (one.terms, other.terms, len(one.terms), len(other.terms))
                self.calls(one, other)
                self.assertIs(one.terms, ahead[0])
                self.assertIs(other.terms, ahead[1])

    def test_equal_calls_give_equal_answers(self):
        for one in GREAT:
            for other in GREAT[::3]:
                again = self.calls(one, other)
                self.assertEqual(self.calls(one, other), again)

    def test_after_an_error_all_is_as_it_was(self):
        one = GREAT[-1]
        ahead = one.terms
        for call in (scaled, stretched):
            with self.assertRaises(NoFraction):
                call(one, (2, 4))
        self.assertIs(one.terms, ahead)

    def test_defined_where_they_are_listed(self):
        names = ["plus", "times", "scaled", "stretched", "slope", "area", "at_nought", "Curve"]
        for name in names:
            self.assertEqual(getattr(curves, name).__module__, "namedmoments.curves")
        for name in ("__init__", "__eq__"):
            self.assertIn(name, Curve.__dict__)


if __name__ == "__main__":
    unittest.main()
