"""The examples of the document."""

import unittest

from namedmoments.curves import Curve, at_nought, slope
from namedmoments.texts import curve_text


class Examples(unittest.TestCase):

    def test_e01(self):
        o, one = (0, 1), (1, 1)
        f = Curve((((-2, 1), 0, o), ((-1, 1), 1, o), (one, 0, one)))
        self.assertEqual(curve_text(f), "-2 - t + e^(1)")
        self.assertEqual(slope(f).terms, (((-1, 1), 0, (0, 1)), ((1, 1), 0, (1, 1))))
        self.assertEqual(at_nought(f), (-1, 1))


if __name__ == "__main__":
    unittest.main()
