"""Reading the text of a curve [1.3]."""

import random
import unittest
from math import gcd

from namedmoments import reading
from namedmoments.curves import Curve
from namedmoments.errors import BadText
from namedmoments.reading import read_curve
from namedmoments.texts import curve_text
from tests.helpers import NIL, SMALL, UNIT, check_form, odd_things, worth

RATES = sorted({(top, bottom) for bottom in range(1, 5) for top in range(-16, 17)
                if gcd(top, bottom) == 1 and abs(top) <= 4 * bottom}, key=worth)
LONG = 10 ** 30 - 1
SIZES = [
    (1, 1), (-1, 1), (2, 1), (-2, 1), (10, 1), (1, 2), (-1, 2), (12, 35), (LONG, 1), (-LONG, 1),
    (1, LONG), (-1, LONG), (LONG - 1, LONG), (-LONG, LONG - 1), (10 ** 29, LONG),
]
WRONG_PIECES = [
    # needless zeros
    "0", "00", "01", "007 t", "02 e^(1)", "1/02", "01/2", "1/2 t^02", "t^03", "e^(01)", "e^(1/02)", "e^(-01)",
    "0 t", "0 e^(1)", "0/1", "0/2", "00/1 t",
    # a size of 1 written out with something behind it
    "1 t", "1 t^2", "1 e^(1)", "1 t e^(1)", "1/1 t",
    # not in lowest terms, a bottom of 1 or of nothing
    "2/4", "2/4 t", "3/3", "10/2 e^(1)", "2/1", "1/1", "5/1 t", "1/0", "0/0", "/2", "1/", "/", "1//2", "1/2/3",
    "e^(2/4)", "e^(2/1)", "e^(1/1)", "e^(3/3)", "e^(1/0)", "e^(/2)", "e^(1/)", "e^(1//2)", "e^(1/2/1)",
    # thirty-one digits
    "1" + "0" * 30, "1/" + "1" + "0" * 30, "1" + "0" * 30 + "/7 t", "9" * 31 + " e^(1)", "9" * 300, "0" * 31,
    "1/" + "3" * 31, "0" + "9" * 30, "1/0" + "9" * 30,
    # other powers
    "t^0", "t^1", "t^4", "2 t^4", "t^10", "t^-1", "t^(2)", "t^", "t2", "t^2^2", "tt", "t t", "t t^2", "T", "x",
    "2t", "2 t^0", "2 t^1 e^(1)", "t^2/1", "t^1/2", "-t^3^1",
    # other q
    "e^(0)", "e^(-0)", "2 e^(0)", "e^(0/1)", "e^(9/2)", "e^(-9/2)", "e^(5)", "e^(-5)", "e^(1/5)", "e^(-1/5)",
    "e^(17/4)", "e^(1/8)", "e^()", "e^(-)", "e^(--1)", "e^(+1)", "e^1", "e^(1", "e^1)", "e^((1))", "E^(1)", "e(1)",
    "e", "e^", "e^(t)", "e^(1 )", "e^( 1)", "e^(- 1)", "e^(1.5)", "e^(1)e^(1)", "e^(1) e^(1)", "e^(1) e^(2)",
    "e^(1000000000000000000000000000000000000)", "e^(1/1000000000000000000000000000000000)",
    # another order
    "e^(1) t", "t 2", "e^(1) 2", "t e^(1) 2", "2 e^(1) t", "t 2 e^(1)",
    # blanks too many and too few
    "", " ", "  ", " t", "t ", " 2", "2 ", "2  t", "t  e^(1)", "2 t  e^(1)", " t e^(1)", "te^(1)", "2e^(1)",
    "2 te^(1)", "1 /2", "1/ 2", "t ^2", "t^ 2", "e ^(1)", "e^ (1)", "e^(1) ", "1 2", "2 2 t",
    # signs
    "+t", "+ t", "--t", "- t", "+-t", "t+", "t-", "1+t", "1-t", "1 +t", "1+ t", "1 -t", "1- t", "+",
    "-", "+2", "--1", "-", "-+1", "- 1", "1/-2", "2 -t", "2 +t", "t e^(-1/-2)", "e^(1/-2)", "2 - ", "2 + ", " - 2",
    # other signs
    "t\n", "\nt", "\n", "2\n", "2\nt", "e^(1)\n", "2 \nt", "t*2", "2*t", "1.0", "1.", ".5", "1e3", "1_0", "0x1",
    "1,000", "nan", "one", "(1)", "(t)", "t=", "\"1\"", "1;", "None", "~", "!", "_", "1 t^2 ~",
]


class Case(unittest.TestCase):

    def wrong(self, text, index):
        with self.assertRaises(BadText) as got:
            read_curve(text)
        self.assertIs(got.exception.index.__class__, int)
        self.assertEqual(got.exception.index, index, repr(text)[:80])

    def right(self, curve):
        text = curve_text(curve)
        found = read_curve(text)
        check_form(self, found)
        self.assertEqual(found, curve)
        self.assertEqual(curve_text(found), text)


class There(Case):

    def test_nought(self):
        found = read_curve("0")
        check_form(self, found)
        self.assertEqual(found.terms, ())

    def test_each_k_and_each_q(self):
        for k in range(4):
            for q in RATES:
                for c in SIZES:
                    self.right(Curve(((c, k, q),)))

    def test_each_size_as_a_later_term(self):
        for k in range(4):
            for q in RATES[1:]:
                for c in SIZES[::3]:
                    self.right(Curve((((-1, 1), 3, (-4, 1)), (c, k, q))))
                    self.right(Curve((((3, 7), 0, (-4, 1)), ((-c[0], c[1]), k, q))))

    def test_none_to_eight_terms(self):
        chance = random.Random(7)
        places = [(worth(q), k, q) for q in RATES for k in range(4)]
        for many in list(range(9)) * 30:
            chosen = sorted(chance.sample(places, many))
            self.right(Curve(tuple([(chance.choice(SIZES), k, q) for _, k, q in chosen])))

    def test_small_curves(self):
        for curve in SMALL:
            self.right(curve)

    def test_the_signs_ahead(self):
        terms = read_curve("-2 - t + e^(1)").terms
        self.assertEqual(terms, (((-2, 1), 0, NIL), ((-1, 1), 1, NIL), (UNIT, 0, UNIT)))
        self.assertEqual(read_curve("-1").terms, (((-1, 1), 0, NIL),))
        self.assertEqual(read_curve("1").terms, ((UNIT, 0, NIL),))
        terms = read_curve("-t^3 e^(-1/2) - 5/3 t").terms
        self.assertEqual(terms, (((-1, 1), 3, (-1, 2)), ((-5, 3), 1, NIL)))

    def test_read_again(self):
        for curve in SMALL:
            text = curve_text(curve)
            self.assertEqual(read_curve(text).terms, read_curve(text).terms)


class Wrong(Case):

    def test_no_string(self):
        for thing in odd_things():
            if not isinstance(thing, str):
                self.wrong(thing, -1)
        for thing in [0, 1, b"t", bytearray(b"t"), ["t"], ("t",), {"t": 1}, Curve(()), None, SMALL[7].terms]:
            self.wrong(thing, -1)

    def test_each_wrong_piece(self):
        for piece in WRONG_PIECES:
            index = 1 if piece in ("2 - ", "2 + ") else 0
            if piece != "0":
                self.wrong(piece, index)
            self.wrong(piece + " + t^3 e^(4)", index)
            if not piece.startswith("-"):
                self.wrong("-" + piece, index)
            self.wrong("-t^3 e^(-4) + " + piece, index + 1)
            self.wrong("t^3 e^(-4) - " + piece, index + 1)
            self.wrong("t^3 e^(-4) - e^(-7/2) + " + piece + " - t^3 e^(4)", index + 2)

    def test_a_minus_ahead_of_a_later_piece(self):
        for piece in ["-t e^(4)", "-1/2 e^(4)", "-e^(4)"]:
            read_curve(piece)
            self.wrong("1 + " + piece, 1)
            self.wrong("1 - " + piece, 1)
            self.wrong("1 + t - " + piece, 2)

    def test_nought_beside_something(self):
        for text, index in [("0 + t", 0), ("t + 0", 1), ("t - 0", 1), ("0 + 0", 0), ("0 - 0", 0), ("-0", 0),
                            (" 0", 0), ("0 ", 0), ("0\n", 0), ("1 + t + 0", 2), ("-0 + t", 0), ("1 - 0 + t", 1)]:
            self.wrong(text, index)

    def test_empty_pieces(self):
        for text, index in [("", 0), (" + ", 0), (" - ", 0), ("t + ", 1), ("t - ", 1), (" + t", 0), (" - t", 0),
                            ("1 +  + t", 1), ("1 -  - t", 1), ("1 + t + ", 2), ("1 +  - t", 1)]:
            self.wrong(text, index)

    def test_blanks_between_pieces(self):
        for text, index in [("1 +  t", 1), ("1  + t", 0), ("1 + t ", 1), (" 1 + t", 0), ("1+ t", 0), ("1 +t", 0),
                            ("1+t", 0), ("1 + t+ t^2", 1), ("1 + + t", 1), ("1 + - t", 1), ("1 - - t", 1),
                            ("1 - + t", 1), ("1 + t -t^2", 1), ("1\n+ t", 0), ("1 +\nt", 0), ("1 + t\n", 1)]:
            self.wrong(text, index)

    def test_not_greater(self):
        for text, index in [("1 + 1", 1), ("1 - 1", 1), ("t + 1", 1), ("t + t", 1), ("t - t", 1), ("t^2 - t", 1),
                            ("e^(1) + 1", 1), ("e^(1) + e^(1)", 1), ("e^(1) - 2 e^(1)", 1), ("t e^(1) + e^(1)", 1),
                            ("1 + e^(-1)", 1), ("e^(1/2) + e^(1/3)", 1), ("e^(-1/3) - e^(-1/2)", 1),
                            ("1 + t + t^2 + t", 3), ("1 + t + t^2 + t^2", 3), ("1 + t^3 - t^2 + 0", 2)]:
            self.wrong(text, index)
        self.assertEqual(len(read_curve("1 + t - 1/2 t^3 + e^(1/3) - e^(1/2)").terms), 5)

    def test_the_ninth_piece(self):
        pieces = [f"e^({n})" for n in range(-4, 0)] + [f"e^({n})" for n in range(1, 5)]
        self.assertEqual(len(read_curve(" + ".join(pieces)).terms), 8)
        for ninth in ["t e^(4)", "", "0", "wrong", "e^(1)", "t e^(4) + t^2 e^(4)"]:
            self.wrong(" + ".join(pieces + [ninth]), 8)
        for index in range(8):
            wrong = pieces[:index] + ["wrong"] + pieces[index + 1:] + ["t e^(4)"]
            self.wrong(" - ".join(wrong), index)
            again = pieces[:index + 1] + [pieces[index]] + pieces[index + 1:]
            self.wrong(" + ".join(again), index + 1)

    def test_the_first_wrong_piece(self):
        self.wrong("x + y", 0)
        self.wrong("1 + y - 1", 1)
        self.wrong("1 + 1 - y", 1)
        self.wrong("1 + t - 2/4 + 0", 2)

    def test_two_thousand_signs(self):
        for text, index in [("t" * 2000, 0), ("1" * 2000, 0), (" " * 2000, 0), ("\n" * 2000, 0), ("-" * 2000, 0),
                            (" + " * 666, 0), ("1 + " * 500, 1), ("1/" * 1000, 0), ("1 + " + "9" * 1996, 1),
                            ("(" * 2000, 0), ("e^(" * 666, 0), ("2 + t - " + "e" * 1992, 2), ("0" * 2000, 0)]:
            self.assertLessEqual(len(text), 2000)
            self.wrong(text, index)

    def test_every_sign_in_every_place(self):
        text = "-1/2 + 3 t^2 e^(1/3)"
        self.assertEqual(len(read_curve(text).terms), 2)
        wrong = 0
        for place in range(len(text) + 1):
            for sign in [chr(number) for number in range(32, 127)] + ["\n"]:
                for changed in (text[:place] + sign + text[place:], text[:place] + sign + text[place + 1:]):
                    try:
                        found = read_curve(changed)
                    except BadText as error:
                        self.assertIn(error.index, (0, 1, 2))
                        wrong += 1
                    else:
                        self.assertEqual(curve_text(found), changed)
        self.assertGreater(wrong, 3000)

    def test_signs_at_the_end(self):
        for text, index in [("t +", 0), ("t -", 0), ("1 + t +", 1), ("1 + t -", 1), ("1 +", 0), ("-", 0), ("1 + -", 1)]:
            self.wrong(text, index)

    def test_each_sign_left_out(self):
        text = "-1/2 + 3 t^2 e^(1/3)"
        indices = {0: None, 1: 0, 2: None, 3: 0, 4: 0, 5: 0, 6: 0, 7: 1, 8: 1, 9: 1, 10: 1, 11: 1, 12: 1,
                   13: 1, 14: 1, 15: 1, 16: 1, 17: 1, 18: 1, 19: 1}
        self.assertEqual(len(indices), len(text))
        for place, index in indices.items():
            changed = text[:place] + text[place + 1:]
            if index is None:
                self.assertEqual(curve_text(read_curve(changed)), changed)
            else:
                self.wrong(changed, index)


class Found(unittest.TestCase):

    def test_worth_of_what_is_read(self):
        found = read_curve("12345678901234567890 t^2 e^(-11/3) - 7/123456789012345678901234567891 e^(1/4)")
        self.assertEqual(found.terms, (
            ((12345678901234567890, 1), 2, (-11, 3)),
            ((-7, 123456789012345678901234567891), 0, (1, 4)),
        ))

    def test_defined_where_it_is_listed(self):
        self.assertEqual(reading.read_curve.__module__, "namedmoments.reading")


if __name__ == "__main__":
    unittest.main()
