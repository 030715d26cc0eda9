"""The examples of the document."""

import unittest

from namedmoments.common import bare, common, quotient
from namedmoments.curves import Curve, at_nought, slope
from namedmoments.flows import Flow, content, fullest
from namedmoments.moments import polynomial_of
from namedmoments.noughts import noughts
from namedmoments.rows import Row
from namedmoments.sayings import decided, when
from namedmoments.signs import sign_at
from namedmoments.texts import curve_text

o, one = (0, 1), (1, 1)


class Examples(unittest.TestCase):

    def test_e01(self):
        f = Curve((((-2, 1), 0, o), ((-1, 1), 1, o), (one, 0, one)))
        self.assertEqual(curve_text(f), "-2 - t + e^(1)")
        self.assertEqual(slope(f).terms, (((-1, 1), 0, (0, 1)), ((1, 1), 0, (1, 1))))
        self.assertEqual(at_nought(f), (-1, 1))

    def test_e02(self):
        f = Curve((((-2, 1), 0, o), ((-1, 1), 1, o), (one, 0, one)))
        self.assertEqual(len(noughts(f)), 2)
        self.assertEqual([polynomial_of(m) for m in noughts(f)], [None, None])
        self.assertEqual(sign_at(f, (5, 4)), 1)
        self.assertEqual([Row((f,)).signs(cell) for cell in range(5)], [(1,), (0,), (-1,), (0,), (1,)])
        self.assertEqual([Row([f, slope(f)]).signs(cell) for cell in (0, 3, 6)], [(1, -1), (-1, 0), (1, 1)])

    def test_e03(self):
        g = Curve((((-1, 1), 2, o), (one, 0, one)))
        h = Curve(((one, 1, o), (one, 0, (1, 2))))
        self.assertEqual(common(g, h), h)
        self.assertEqual(quotient(g, h).terms, (((-1, 1), 1, (0, 1)), ((1, 1), 0, (1, 2))))
        # h divides g, and the other factor, -t + e^(1/2), is nowhere nought
        self.assertEqual((len(noughts(g)), len(noughts(h)), len(noughts(quotient(g, h)))), (1, 1, 0))
        self.assertEqual(len(Row([g, h]).moments()), 1)

    def test_e04(self):
        found = bare(Curve((((6, 1), 0, o), ((-3, 1), 2, o), ((-2, 1), 0, one), (one, 2, one))))
        self.assertEqual(found.terms, (((-2, 1), 0, (0, 1)), ((1, 1), 2, (0, 1))))

    def test_e05(self):
        f = Curve((((-2, 1), 0, o), ((-1, 1), 1, o), (one, 0, one)))
        later = ("some", "y", ("and", ("ahead", "x", "y"), ("is", 0, "y", 0)))
        self.assertIs(decided((f,), ("some", "x", ("and", ("is", 0, "x", 0), later))), True)
        self.assertEqual(when((f,), ("is", 0, "x", -1), "x"), [2])

    def test_e06(self):
        w = Flow((one, o), ((0, 1, (2, 1)), (1, -1, one)))
        self.assertEqual(curve_text(content(w, 1)), "-2 e^(-2) + 2 e^(-1)")
        self.assertEqual(len(fullest(w, 1)), 1)


if __name__ == "__main__":
    unittest.main()
