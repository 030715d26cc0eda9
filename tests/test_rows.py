"""Rows of curves, their moments, and their signs along the whole line [5.1]."""

import random
import unittest
from fractions import Fraction
from itertools import product as tuples

from namedmoments.curves import Curve, plus, scaled, slope, times
from namedmoments.errors import NoCell, NoCurves, TooMany
from namedmoments.moments import Moment, at, compare, sign_then
from namedmoments.noughts import noughts
from namedmoments.reading import read_curve
from namedmoments.rows import Row
from namedmoments.signs import far_sign, sign_at
from tests.helpers import NIL, SMALL, UNIT, check_name, curve_of, ends, less_fraction, no_numbers, odd_things, pair
from tests.helpers import power, product, rate

NOUGHT = Curve(())
T = Curve(((UNIT, 1, NIL),))
GAP = Fraction(1, 10 ** 20)
LN2 = read_curve("-2 + e^(1)")
TWO = read_curve("-2 - t + e^(1)")
ROWS = [
    [T],
    [read_curve("1 + t^2")],
    [read_curve("e^(1)"), read_curve("-3")],
    [LN2],
    [TWO],
    [T, LN2],
    [LN2, T, LN2],
    [read_curve("-4 + e^(2)"), LN2, times(LN2, LN2), scaled(LN2, (-1, 3))],
    [TWO, slope(TWO), T, read_curve("-2 + t^2"), read_curve("-1 + e^(1/2)")],
    [read_curve("-1 - t + e^(1)"), T, less_fraction(Fraction(1, 10 ** 20))],
    [product([less_fraction(n) for n in range(-3, 4)]), times(T, TWO), read_curve("1 - t + 2 t^2 e^(1/4)")],
    [less_fraction(999), less_fraction(-999), less_fraction(Fraction(1, 3)), less_fraction(Fraction(1, 3) + GAP)],
    [plus(power(T, 6), curve_of({(0, 1): -1})), plus(power(T, 6), curve_of({(0, 0): -3})), LN2],
    [less_fraction(1000), LN2, less_fraction(-1000), T],
    [rate(Fraction(1, 3)), read_curve("-2 + e^(1/3)"), read_curve("t - e^(2/3)")],
]


def inside(row):
    """For each stretch of a row a fraction that lies in it, told by the ends of its moments alone."""
    found = row.moments()
    if not found:
        return [Fraction(0)]
    places = [ends(found[0])[0]]
    for one, other in zip(found, found[1:]):
        places.append(between(one, other))
    return places + [ends(found[-1])[1]]


def between(one, other):
    """A fraction between two moments."""
    low, high = ends(one)[0], ends(other)[1]
    while True:
        middle = (low + high) / 2
        name = Moment(less_fraction(middle), pair(middle - 1), pair(middle + 1))
        if compare(one, name) >= 0:
            low = middle
        elif compare(name, other) >= 0:
            high = middle
        else:
            return middle


class Case(unittest.TestCase):

    def too_many(self, call, *things):
        with self.assertRaises(TooMany) as got:
            call(*things)
        self.assertEqual(got.exception.most, 4)


class Moments(Case):

    def test_all_noughts_each_once(self):
        for curves in ROWS:
            row = Row(curves)
            found = row.moments()
            self.assertIs(found.__class__, list)
            for one, other in zip(found, found[1:]):
                self.assertEqual(compare(one, other), -1)
            for moment in found:
                if max(map(abs, ends(moment))) <= 1000:
                    check_name(self, moment)
                self.assertIn(0, [sign_then(curve, moment) for curve in curves])
            for curve in curves:
                for moment in noughts(curve):
                    self.assertEqual([compare(moment, other) for other in found].count(0), 1)

    def test_how_many(self):
        self.assertEqual([len(Row(curves).moments()) for curves in ROWS], [1, 0, 0, 1, 2, 2, 2, 1, 5, 2, 9, 4, 6, 4, 1])

    def test_lists_are_new(self):
        row = Row([TWO, T])
        one, other = row.moments(), row.moments()
        self.assertIsNot(one, other)
        self.assertEqual(one, other)
        one.clear()
        self.assertEqual(len(row.moments()), 3)


class Signs(Case):

    def test_every_cell(self):
        for curves in ROWS:
            row = Row(curves)
            found = row.moments()
            for cell, moment in enumerate(found):
                signs = row.signs(2 * cell + 1)
                self.assertIs(signs.__class__, tuple)
                self.assertEqual(signs, tuple([sign_then(curve, moment) for curve in curves]))
            if max([1] + [abs(end) for moment in found for end in ends(moment)]) <= 999:
                for cell, place in enumerate(inside(row)):
                    self.assertEqual(row.signs(2 * cell), tuple([sign_at(curve, pair(place)) for curve in curves]))
            self.assertEqual(row.signs(0), tuple([far_sign(curve, -1) for curve in curves]))
            self.assertEqual(row.signs(2 * len(found)), tuple([far_sign(curve, 1) for curve in curves]))

    def test_by_hand(self):
        row = Row((TWO, T, read_curve("-t^2 + t^3")))
        self.assertEqual([row.signs(cell) for cell in range(9)], [
            (1, -1, -1), (0, -1, -1), (-1, -1, -1), (-1, 0, 0), (-1, 1, -1), (-1, 1, 0), (-1, 1, 1), (0, 1, 1), (1, 1, 1)])
        self.assertEqual(Row([read_curve("-1 - t + e^(1)")]).signs(1), (0,))
        self.assertEqual([Row([read_curve("-1 - t + e^(1)")]).signs(cell) for cell in (0, 2)], [(1,), (1,)])
        self.assertEqual(Row([read_curve("-3")] * 5).signs(0), (-1,) * 5)

    def test_no_cell(self):
        for curves in ROWS[:6]:
            row = Row(curves)
            many = len(row.moments())
            for thing in no_numbers(2 * many):
                with self.assertRaises(NoCell):
                    row.signs(thing)
            self.assertEqual(len([row.signs(cell) for cell in range(2 * many + 1)]), 2 * many + 1)


class CellOf(Case):

    def test_own_moments(self):
        for curves in ROWS:
            row = Row(curves)
            for index, moment in enumerate(row.moments()):
                self.assertEqual(row.cell_of(moment), 2 * index + 1)
            for curve in curves:
                for moment in noughts(curve):
                    self.assertEqual(row.cell_of(moment) % 2, 1)

    def test_fractions(self):
        for curves in ROWS:
            row = Row(curves)
            for place in [Fraction(n, 4) for n in range(-12, 13)] + [Fraction(-999), Fraction(999), Fraction(1, 3)]:
                cell = row.cell_of(at(pair(place)))
                self.assertEqual(row.signs(cell), tuple([sign_at(curve, pair(place)) for curve in curves]))
                order = [compare(moment, at(pair(place))) for moment in row.moments()]
                self.assertEqual(cell, 2 * order.count(-1) + order.count(0))

    def test_other_noughts(self):
        others = [moment for curve in [TWO, LN2, read_curve("-2 + t^2"), T, read_curve("-1 + t e^(1)"),
                                       product([TWO, LN2, T, less_fraction(-5)])] for moment in noughts(curve)]
        for curves in ROWS[:14]:
            row = Row(curves)
            for moment in others:
                cell = row.cell_of(moment)
                self.assertEqual(row.signs(cell), tuple([sign_then(curve, moment) for curve in curves]))
                order = [compare(one, moment) for one in row.moments()]
                self.assertEqual(cell, 2 * order.count(-1) + order.count(0))

    def test_wide_names(self):
        row = Row([product([less_fraction(n) for n in (-1, 0, 1)])])
        self.assertEqual(row.cell_of(Moment(LN2, (-1000, 1), (1000, 1))), 4)
        self.assertEqual(row.cell_of(Moment(T, (-1000, 1), (1000, 1))), 3)
        self.assertEqual(Row([read_curve("1")]).cell_of(Moment(LN2, (-1000, 1), (1000, 1))), 0)

    def test_too_many(self):
        row = Row([T, read_curve("-2 + e^(1/3)")])
        for text in ["-2 + e^(1/2)", "-2 + e^(1/4)"]:
            self.too_many(row.cell_of, Moment(read_curve(text), NIL, (9, 1)))
        far = times(read_curve("-2 + e^(1/2)"), less_fraction(-900))
        self.too_many(row.cell_of, Moment(far, (-901, 1), (-899, 1)))
        self.assertEqual(row.cell_of(Moment(read_curve("-2 + e^(2/3)"), NIL, (9, 1))), 2)
        # by all curves, also by one that is nowhere nought
        self.too_many(Row([rate(Fraction(1, 3)), T]).cell_of, Moment(read_curve("-2 + e^(1/2)"), NIL, (9, 1)))


class Rows(Case):

    def test_curves(self):
        for curves in ROWS:
            for given in (list(curves), tuple(curves)):
                row = Row(given)
                self.assertIs(row.curves.__class__, tuple)
                self.assertEqual(row.curves, tuple(curves))
        given = [T, LN2]
        row = Row(given)
        given.pop()
        self.assertEqual(row.curves, (T, LN2))
        self.assertEqual(row.signs(0), (-1, -1))

    def test_equal(self):
        for one, other in tuples(ROWS[:7], ROWS[:7]):
            self.assertEqual(Row(one) == Row(tuple(other)), one == other)
            self.assertEqual(Row(one) != Row(tuple(other)), one != other)
        for thing in odd_things() + [(T,), [T], T, at(NIL), (T, LN2)]:
            self.assertFalse(Row([T]) == thing)
            self.assertTrue(Row([T]) != thing)
        self.assertNotEqual(Row([T]), Row([scaled(T, (2, 1))]))
        self.assertNotEqual(Row([T, LN2]), Row([LN2, T]))

    def test_no_curves(self):
        wrong = [thing for thing in odd_things() if not isinstance(thing, (list, tuple))]
        wrong += [[], (), [T] * 6, (T,) * 6, [T, None], (T, "t"), [T.terms], [T, NOUGHT], (NOUGHT,), [NOUGHT] * 5, T,
                  [[T]], ([T],), (T, (T,)), {0: T}, {T.terms: T}.values(), iter([T]), [T, 1], [T] * 99999, [T, Row([T])],
                  [T, True], ((),), [at(NIL)], [plus(T, scaled(T, (-1, 1)))]]
        for thing in wrong + [thing for thing in odd_things() if isinstance(thing, (list, tuple))]:
            with self.assertRaises(NoCurves):
                Row(thing)
        with self.assertRaises(NoCurves):
            Row([rate(Fraction(1, 5)), NOUGHT])
        with self.assertRaises(NoCurves):
            Row((rate(Fraction(1, 5)), None))

    def test_too_many(self):
        for curves in [[rate(Fraction(1, 5))], [T, read_curve("e^(1/3) + e^(1/2)")], [rate(Fraction(1, 2)), rate(Fraction(1, 3))],
                       [T, rate(Fraction(1, 3)), LN2, T, rate(Fraction(3, 4))], [rate(Fraction(2, 3)), T, rate(Fraction(-1, 2))]]:
            self.too_many(Row, curves)
            self.too_many(Row, tuple(curves))
        Row([rate(Fraction(1, 2)), rate(Fraction(1, 4)), rate(Fraction(3, 4)), T])

    def test_asked_amiss_tells_as_ahead(self):
        row = Row([TWO, T, read_curve("-2 + e^(1/3)")])
        ahead = (row.moments(), [row.signs(cell) for cell in range(9)], row.curves)
        for _ in range(2):
            for thing in (9, -1, None, True, [0], "0"):
                with self.assertRaises(NoCell):
                    row.signs(thing)
            self.too_many(row.cell_of, Moment(read_curve("-2 + e^(1/2)"), NIL, (9, 1)))
            self.assertEqual((row.moments(), [row.signs(cell) for cell in range(9)], row.curves), ahead)
        self.assertEqual(row, Row([TWO, T, read_curve("-2 + e^(1/3)")]))

    def test_by_chance(self):
        chance = random.Random(8)
        for bottom in [1, 2, 3, 4] * 3:
            curves = []
            for _ in range(chance.randint(1, 5)):
                curve = NOUGHT
                while not curve.terms:
                    curve = curve_of({(chance.randint(0, 3), Fraction(chance.randint(-6, 6), bottom)): chance.randint(-9, 9)
                                      for _ in range(chance.randint(1, 4))})
                curves.append(curve)
            row = Row(curves)
            for place in [Fraction(chance.randint(-4000, 4000), 997) for _ in range(40)]:
                cell = row.cell_of(at(pair(place)))
                self.assertEqual(row.signs(cell), tuple([sign_at(curve, pair(place)) for curve in curves]))

    def test_small_curves(self):
        for curves in [SMALL[1:6], SMALL[3:8], [SMALL[7]] * 5]:
            row = Row(curves)
            cells = 2 * len(row.moments()) + 1
            self.assertEqual({len(row.signs(cell)) for cell in range(cells)}, {len(curves)})


if __name__ == "__main__":
    unittest.main()
