"""What the promises of common parts and of signs rest on, where no promise shows it by itself."""

import unittest
from decimal import Decimal, localcontext
from fractions import Fraction

from namedmoments.boxes import turns_in_boxes
from namedmoments.checks import rate_bottom
from namedmoments.common import common, plain, quotient
from namedmoments.curves import plus, times
from namedmoments.grids import grid_of
from namedmoments.ladders import turns_between
from namedmoments.narrowing import narrowed
from namedmoments.reading import read_curve
from namedmoments.resultants import resultant_and_factor
from namedmoments.rungs import without_nought
from namedmoments.spans import e_span, small_e_span, span_ends
from namedmoments.worths import drawn_of
from tests.helpers import curve_of, pair, product, rate
from tests.test_common import ONE, T, less_one


def expanded(curves):
    """The product of curves of few terms, put together in halves."""
    if len(curves) <= 1:
        return product(curves)
    half = len(curves) // 2
    return times(expanded(curves[:half]), expanded(curves[half:]))


class Turns(unittest.TestCase):

    def check(self, curve, low, high):
        """That boxes and the ladder tell the same turns."""
        bottom = rate_bottom([curve])
        grid, _, _ = grid_of(curve, bottom)
        drawn = drawn_of(without_nought(grid)[0], bottom)
        found = [[narrowed(drawn, stretch, 70) for stretch in turns] for turns in (
            turns_between(grid, bottom, low, high), turns_in_boxes(grid, bottom, low, high, 10 ** 5))]
        self.assertEqual(len(found[0]), len(found[1]))
        for one, other in zip(*found):
            self.assertEqual(one[2], other[2])
            self.assertLess(Fraction(*one[0]), Fraction(*other[1]))
            self.assertLess(Fraction(*other[0]), Fraction(*one[1]))
        return len(found[0])

    def test_boxes_and_ladders(self):
        gap = Fraction(1, 10 ** 20)
        close = product([less_one(curve_of({(1, 0): 1, (0, 0): n * gap})) for n in (-1, 0, 1)])
        for curve, many in [
                (read_curve("-2 - t + e^(1)"), 2), (read_curve("-1 - t + e^(1)"), 0), (read_curve("-1 - t - 1/2 t^2 + e^(1)"), 0),
                (times(close, read_curve("-7 + e^(1)")), 4), (times(close, read_curve("t - 3 e^(1/4)")), 3),
                (read_curve("3 t^3 e^(-4) - 5 t e^(-8/3) + 7 t^2 e^(-1/3) - 100 + 2 t^3 + 3 t e^(1) - 4 t^2 e^(7/3) + e^(4)"), 1),
                (product([read_curve("-1 + e^(1/3)"), read_curve("-1 - t + e^(1)"), read_curve("-3 - t + e^(1/3)")]), 2),
                (plus(curve_of({(20, 0): 1}), rate(-1)), 0), (curve_of({(20, 0): 1, (0, -1): -1}), 3), (read_curve("5 e^(-2)"), 0), (read_curve("t^3"), 0)]:
            self.assertEqual(self.check(curve, (-1000, 1), (1000, 1)), many)
            self.check(curve, (-7, 3), (5, 2))
            self.check(curve, (0, 1), (10 ** 29, 10 ** 28 - 1))
            self.check(curve, (-1000, 1), (0, 1))

    def test_not_enough_boxes(self):
        grid, _, _ = grid_of(read_curve("-2 - t + e^(1)"), 1)
        self.assertIsNone(turns_in_boxes(grid, 1, (-1000, 1), (1000, 1), 1))
        self.assertIsNone(turns_in_boxes(grid, 1, (-1000, 1), (1000, 1), 0))


class Divisors(unittest.TestCase):

    def test_common_part_with_greater_figures_than_the_curves(self):
        # the product of all y ^ i less 1 has small figures, its part (y - 1) ^ 50 great ones
        one = expanded([less_one(rate(Fraction(i, 4))) for i in range(1, 51)])
        other = expanded([less_one(rate(Fraction(1, 4)))] * 50)
        most = max(abs(c[0]) for c, _, _ in one.terms)
        self.assertLess(most * 2 ** 20, max(abs(c[0]) for c, _, _ in other.terms))
        self.assertEqual(common(one, other), other)
        self.assertEqual(common(other, one), other)
        self.assertEqual(times(quotient(one, other), other), one)

    def test_the_same_with_powers_of_t(self):
        one = expanded([plus(curve_of({(i, 0): 1}), curve_of({(0, 0): -1})) for i in range(1, 51)])
        other = expanded([curve_of({(1, 0): 1, (0, 0): -1})] * 50)
        both = plus(times(T, rate(1)), ONE)
        self.assertEqual(common(one, other), other)
        self.assertEqual(common(times(one, both), times(other, both)), times(other, both))

    def test_figures_that_share_much_by_chance(self):
        great = 2 ** 90
        one = curve_of({(0, 1): 1, (1, 0): 3, (0, 0): great})
        other = curve_of({(0, 1): 5, (1, 0): 1, (0, 0): great * 3})
        both = curve_of({(0, 2): 1, (1, 1): great, (0, 0): 2})
        self.assertEqual(common(times(one, both), times(other, both)), both)
        self.assertEqual(common(one, other), ONE)
        self.assertEqual(plain(product([one, one, both])), times(one, both))


class Resultants(unittest.TestCase):

    def test_of_known_polynomials(self):
        # x ^ 2 - 1 and x - 3: the product of what the first is worth at 3
        self.assertEqual(resultant_and_factor([-1, 0, 1], [-3, 1]), (8, [1]))
        # three times three differences of the noughts 1, 2, 3 and 4, 6, 8
        one, other = [-6, 11, -6, 1], [-192, 104, -18, 1]
        expected = 1
        for a in (1, 2, 3):
            for b in (4, 6, 8):
                expected *= a - b
        self.assertEqual(resultant_and_factor(one, other)[0], expected)
        self.assertEqual(resultant_and_factor(other, one)[0], -expected)
        self.assertIsNone(resultant_and_factor([-1, 0, 1], [1, 1]))

    def test_with_leaps(self):
        resultant, factor = resultant_and_factor([2, 0, 0, 0, 0, 1], [-3, 0, 0, 5])
        # the sign is that of five times three leads changing places
        self.assertEqual(resultant, -5 ** 5 * (2 ** 3 + Fraction(3, 5) ** 5))
        self.assertLessEqual(len(factor), 3)


class Spans(unittest.TestCase):

    def test_small_powers_lie_within(self):
        with localcontext() as context:
            context.prec = 60
            for width in (4, 10, 31, 64):
                full = 1 << width
                for part in [0, 1, 2, full // 7, full // 3, full // 2 - 1]:
                    low, high, shift = small_e_span(part, width)
                    self.assertEqual(shift, -width)
                    self.assertLessEqual(Decimal(low), (Decimal(part) / full).exp() * full)
                    self.assertGreaterEqual(Decimal(high), (Decimal(part + 1) / full).exp() * full)

    def test_powers_lie_within_few_bits(self):
        with localcontext() as context:
            context.prec = 80
            for bits in (1, 2, 5, 12, 40, 100):
                for number in [Fraction(1), Fraction(-1), Fraction(7, 3), Fraction(-40), Fraction(-1, 10 ** 12)]:
                    low, high = [Fraction(*end) for end in span_ends(e_span(pair(number), bits))]
                    raised = Fraction((Decimal(number.numerator) / number.denominator).exp())
                    self.assertLessEqual(low, raised * (1 + Fraction(1, 10 ** 70)))
                    self.assertGreaterEqual(high, raised * (1 - Fraction(1, 10 ** 70)))


if __name__ == "__main__":
    unittest.main()
