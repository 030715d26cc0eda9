"""The text of a curve [1.3]."""

import unittest

from namedmoments import texts
from namedmoments.curves import Curve, area, plus, scaled, stretched, times
from namedmoments.texts import curve_text
from tests.helpers import NIL, SMALL, UNIT, many_terms, power

SIZES = [((1, 1), ""), ((2, 1), "2"), ((1, 2), "1/2"), ((12, 35), "12/35"), ((10, 1), "10"),
         ((10 ** 29, 1), "1" + "0" * 29), ((1, 10 ** 29), "1/1" + "0" * 29)]
POWERS = [(0, ""), (1, "t"), (2, "t^2"), (3, "t^3")]
RATES = [(NIL, ""), ((1, 1), "e^(1)"), ((-1, 1), "e^(-1)"), ((4, 1), "e^(4)"), ((-3, 1), "e^(-3)"),
         ((1, 2), "e^(1/2)"), ((-1, 2), "e^(-1/2)"), ((15, 4), "e^(15/4)"), ((-11, 3), "e^(-11/3)")]


def expected(size, power_text, rate_text):
    """The text of a term, of the texts of its parts."""
    parts = [part for part in (size, power_text, rate_text) if part]
    return " ".join(parts) if parts else "1"


class Texts(unittest.TestCase):

    def test_nought(self):
        self.assertEqual(curve_text(Curve(())), "0")
        self.assertEqual(curve_text(plus(SMALL[9], scaled(SMALL[9], (-1, 1)))), "0")

    def test_each_kind_of_term(self):
        for (top, bottom), size in SIZES:
            for k, power_text in POWERS:
                for q, rate_text in RATES:
                    text = expected(size, power_text, rate_text)
                    self.assertEqual(curve_text(Curve((((top, bottom), k, q),))), text)
                    self.assertEqual(curve_text(Curve((((-top, bottom), k, q),))), "-" + text)
                    first = ((-1, 1), 3, (-4, 1))
                    later = curve_text(Curve((first, ((top, bottom), k, q))))
                    self.assertEqual(later, "-t^3 e^(-4) + " + text)
                    later = curve_text(Curve((first, ((-top, bottom), k, q))))
                    self.assertEqual(later, "-t^3 e^(-4) - " + text)

    def test_a_size_of_one(self):
        self.assertEqual(curve_text(Curve(((UNIT, 0, NIL),))), "1")
        self.assertEqual(curve_text(Curve((((-1, 1), 0, NIL),))), "-1")
        self.assertEqual(curve_text(Curve(((UNIT, 1, NIL),))), "t")
        self.assertEqual(curve_text(Curve((((-1, 1), 1, NIL),))), "-t")
        self.assertEqual(curve_text(Curve(((UNIT, 0, UNIT),))), "e^(1)")
        self.assertEqual(curve_text(Curve((((-1, 1), 0, UNIT),))), "-e^(1)")
        self.assertEqual(curve_text(Curve(((UNIT, 0, (-1, 1)), ((-1, 1), 0, NIL)))), "e^(-1) - 1")
        self.assertEqual(curve_text(Curve(((UNIT, 2, (-1, 1)), (UNIT, 0, NIL)))), "t^2 e^(-1) + 1")
        self.assertEqual(curve_text(Curve((((1, 2), 0, NIL), ((1, 2), 1, NIL)))), "1/2 + 1/2 t")

    def test_terms_in_order(self):
        self.assertEqual(curve_text(SMALL[8]), "7/3 t e^(-4) + e^(1/3) - 1/6 e^(1/2) + 2 t^3 e^(1/2)")
        self.assertEqual(
            curve_text(SMALL[9]),
            "e^(-7/2) - 1/2 t^3 e^(-1/2) + 1/3 t^3 e^(-1/3) - 1/4 + 1/5 t^2"
            " - 1/6 t e^(1/4) + 1/7 t^2 e^(1/4) - 1/8 t^3 e^(13/4)",
        )

    def test_more_terms_greater_k_and_other_q(self):
        one = times(Curve((((1, 2), 3, (-4, 1)),)), Curve((((-4, 3), 3, (1, 3)), (UNIT, 2, (4, 1)))))
        self.assertEqual(curve_text(one), "-2/3 t^6 e^(-11/3) + 1/2 t^5")
        other = times(Curve(((UNIT, 0, (1, 3)),)), Curve(((UNIT, 0, (1, 4)),)))
        self.assertEqual(curve_text(other), "e^(7/12)")
        self.assertEqual(curve_text(stretched(other, (-120, 1))), "e^(-70)")
        text = curve_text(many_terms())
        pieces = text.replace(" - ", " + ").split(" + ")
        self.assertGreater(len(pieces), 8)
        self.assertEqual(len(pieces), len(many_terms().terms))

    def test_areas(self):
        one = area(Curve(((UNIT, 2, (2, 1)),)))
        self.assertEqual(curve_text(one), "-1/4 + 1/4 e^(2) - 1/2 t e^(2) + 1/2 t^2 e^(2)")


class Figures(unittest.TestCase):

    def test_eight_thousand_figures(self):
        one = power(Curve((((10 ** 25, 1), 0, NIL),)), 9)
        many = 25 * 2 ** 9
        self.assertTrue(curve_text(one) == "1" + "0" * many)
        below = scaled(one, (-1, 1))
        self.assertTrue(curve_text(below) == "-1" + "0" * many)
        other = plus(one, Curve((((-1, 1), 0, NIL),)))
        self.assertTrue(curve_text(other) == "9" * many)
        more = plus(one, Curve((((1, 1), 0, NIL),)))
        self.assertTrue(curve_text(more) == "1" + "0" * (many - 1) + "1")

    def test_just_eight_thousand_figures(self):
        one = times(power(Curve((((10 ** 28, 1), 0, NIL),)), 8), Curve((((10 ** 27, 1), 0, NIL),)))
        one = times(one, power(Curve((((10 ** 25, 1), 0, NIL),)), 5))
        one = plus(scaled(one, (10 ** 5, 1)), Curve((((-7, 1), 0, NIL),)))
        self.assertTrue(curve_text(one) == "9" * 7999 + "3")

    def test_long_bottoms(self):
        one = power(Curve((((3, 10 ** 29), 0, NIL),)), 8)
        top, bottom = curve_text(one).split("/")
        self.assertTrue(bottom == "1" + "0" * (29 * 256))
        self.assertEqual(int(top), 3 ** 256)

    def test_long_figures_of_every_digit(self):
        digits = "12345678901234567890123456789"
        one = Curve((((int(digits), 1), 0, NIL),))
        for _ in range(199):
            one = plus(scaled(one, (10 ** 29, 1)), Curve((((int(digits), 1), 0, NIL),)))
        self.assertTrue(curve_text(one) == digits * 200)

    def test_lengths_around_every_cut(self):
        one = Curve(((UNIT, 0, NIL),))
        for length in range(1, 300):
            self.assertEqual(curve_text(one), "1" + "0" * (length - 1))
            short = plus(one, Curve((((-1, 1), 0, NIL),)))
            self.assertEqual(curve_text(short), "9" * (length - 1) or "0")
            one = scaled(one, (10, 1))

    def test_long_k_and_q(self):
        one = power(Curve((((-1, 1), 3, (-1, 3)),)), 20000)
        text = curve_text(one)
        self.assertTrue(text.startswith("t^"))
        k, q = text[2:].split(" e^(-")
        self.assertEqual(len(k), 6022)
        self.assertTrue(q.endswith("/3)"))
        self.assertEqual(len(q), 6021 + 3)
        self.assertEqual(k[-40:], str(3 * 2 ** 20000 % 10 ** 40).zfill(40))
        self.assertEqual(q[-43:-3], str(2 ** 20000 % 10 ** 40).zfill(40))


class EveryCall(unittest.TestCase):

    def test_told_again(self):
        for one in SMALL + [many_terms(), power(Curve((((10 ** 29, 3), 1, (1, 3)),)), 9)]:
            ahead = one.terms
            text = curve_text(one)
            self.assertIs(text.__class__, str)
            self.assertTrue(curve_text(one) == text)
            self.assertTrue(curve_text(times(one, Curve(((UNIT, 0, NIL),)))) == text)
            self.assertIs(one.terms, ahead)

    def test_defined_where_it_is_listed(self):
        self.assertEqual(texts.curve_text.__module__, "namedmoments.texts")


if __name__ == "__main__":
    unittest.main()
