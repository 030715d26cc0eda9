"""What the promises of common parts and of signs rest on, where no promise shows it by itself."""

import unittest
from decimal import Decimal, localcontext
from fractions import Fraction

from namedmoments.common import common, plain, quotient
from namedmoments.curves import plus, times
from namedmoments.resultants import resultant_and_factor
from namedmoments.spans import e_span, small_e_span, span_ends
from tests.helpers import curve_of, pair, product, rate
from tests.test_common import ONE, T, less_one


def expanded(curves):
    """The product of curves of few terms, put together in halves."""
    if len(curves) <= 1:
        return product(curves)
    half = len(curves) // 2
    return times(expanded(curves[:half]), expanded(curves[half:]))


class Divisors(unittest.TestCase):

    def test_common_part_with_greater_figures_than_the_curves(self):
        # the product of all y ^ i less 1 has small figures, its part (y - 1) ^ 50 great ones
        one = expanded([less_one(rate(Fraction(i, 4))) for i in range(1, 51)])
        other = expanded([less_one(rate(Fraction(1, 4)))] * 50)
        most = max(abs(c[0]) for c, _, _ in one.terms)
        self.assertLess(most * 2 ** 20, max(abs(c[0]) for c, _, _ in other.terms))
        self.assertEqual(common(one, other), other)
        self.assertEqual(common(other, one), other)
        self.assertEqual(times(quotient(one, other), other), one)

    def test_the_same_with_powers_of_t(self):
        one = expanded([plus(curve_of({(i, 0): 1}), curve_of({(0, 0): -1})) for i in range(1, 51)])
        other = expanded([curve_of({(1, 0): 1, (0, 0): -1})] * 50)
        both = plus(times(T, rate(1)), ONE)
        self.assertEqual(common(one, other), other)
        self.assertEqual(common(times(one, both), times(other, both)), times(other, both))

    def test_figures_that_share_much_by_chance(self):
        great = 2 ** 90
        one = curve_of({(0, 1): 1, (1, 0): 3, (0, 0): great})
        other = curve_of({(0, 1): 5, (1, 0): 1, (0, 0): great * 3})
        both = curve_of({(0, 2): 1, (1, 1): great, (0, 0): 2})
        self.assertEqual(common(times(one, both), times(other, both)), both)
        self.assertEqual(common(one, other), ONE)
        self.assertEqual(plain(product([one, one, both])), times(one, both))


class Resultants(unittest.TestCase):

    def test_of_known_polynomials(self):
        # x ^ 2 - 1 and x - 3: the product of what the first is worth at 3
        self.assertEqual(resultant_and_factor([-1, 0, 1], [-3, 1]), (8, [1]))
        # three times three differences of the noughts 1, 2, 3 and 4, 6, 8
        one, other = [-6, 11, -6, 1], [-192, 104, -18, 1]
        expected = 1
        for a in (1, 2, 3):
            for b in (4, 6, 8):
                expected *= a - b
        self.assertEqual(resultant_and_factor(one, other)[0], expected)
        self.assertEqual(resultant_and_factor(other, one)[0], -expected)
        self.assertIsNone(resultant_and_factor([-1, 0, 1], [1, 1]))

    def test_with_leaps(self):
        resultant, factor = resultant_and_factor([2, 0, 0, 0, 0, 1], [-3, 0, 0, 5])
        # the sign is that of five times three leads changing places
        self.assertEqual(resultant, -5 ** 5 * (2 ** 3 + Fraction(3, 5) ** 5))
        self.assertLessEqual(len(factor), 3)


class Spans(unittest.TestCase):

    def test_small_powers_lie_within(self):
        with localcontext() as context:
            context.prec = 60
            for width in (4, 10, 31, 64):
                full = 1 << width
                for part in [0, 1, 2, full // 7, full // 3, full // 2 - 1]:
                    low, high, shift = small_e_span(part, width)
                    self.assertEqual(shift, -width)
                    self.assertLessEqual(Decimal(low), (Decimal(part) / full).exp() * full)
                    self.assertGreaterEqual(Decimal(high), (Decimal(part + 1) / full).exp() * full)

    def test_powers_lie_within_few_bits(self):
        with localcontext() as context:
            context.prec = 80
            for bits in (1, 2, 5, 12, 40, 100):
                for number in [Fraction(1), Fraction(-1), Fraction(7, 3), Fraction(-40), Fraction(-1, 10 ** 12)]:
                    low, high = [Fraction(*end) for end in span_ends(e_span(pair(number), bits))]
                    raised = Fraction((Decimal(number.numerator) / number.denominator).exp())
                    self.assertLessEqual(low, raised * (1 + Fraction(1, 10 ** 70)))
                    self.assertGreaterEqual(high, raised * (1 - Fraction(1, 10 ** 70)))


if __name__ == "__main__":
    unittest.main()
