"""Over the whole program: a curve tells the same by all its ways."""

import sys
import unittest
from fractions import Fraction

from namedmoments.apart import apart, is_apart
from namedmoments.common import bare, common, plain, quotient, trimmed
from namedmoments.curves import Curve, area, at_nought, plus, scaled, slope, stretched, times
from namedmoments.desk import Desk, desk_of
from namedmoments.flows import Flow, content, fullest, passed, since_when
from namedmoments.moments import Moment, at, compare, finer, fraction_of, polynomial_of, sign_then
from namedmoments.noughts import most_noughts, noughts, times_nought
from namedmoments.orders import orders
from namedmoments.reading import read_curve
from namedmoments.rows import Row
from namedmoments.sayings import decided, is_saying, when
from namedmoments.signs import far_sign, order_at_nought, sign_at
from namedmoments.texts import curve_text
from tests.helpers import NIL, SMALL, UNIT, less_fraction, odd_things, pair, product, rate

NOUGHT = Curve(())
T = Curve(((UNIT, 1, NIL),))
CURVES = [read_curve(text) for text in [
    "t", "-2 - t + e^(1)", "-2 + e^(1)", "1 + t^2", "-1 - t + e^(1)", "-t + t^3", "1 - 3 t + t^3 e^(1/2)", "-1/3 e^(-2) + t",
    "-e^(-1) + t - 3 t^2 e^(1/4) + e^(1)", "2 e^(-4/3) - 5 t + t^2 e^(2/3)", "-2 e^(-2) + 2 e^(-1)",
]]
FLOW = Flow((UNIT, NIL, (1, 4), NIL), ((0, 1, (2, 1)), (1, 2, UNIT), (2, 3, UNIT), (1, -1, UNIT), (3, -1, (1, 2))))


class OneCurve(unittest.TestCase):

    def test_by_all_its_ways(self):
        for curve in CURVES:
            found = noughts(curve)
            row = Row([read_curve(curve_text(curve))])
            self.assertEqual(len(row.moments()), len(found))
            moments, rankings = orders([curve, NOUGHT])
            self.assertEqual(len(moments), len(found))
            desk = Desk()
            desk.put("c", curve)
            desk = desk_of(desk.journal())
            self.assertEqual(desk.noughts_of("c"), len(found))
            for index, moment in enumerate(found):
                self.assertEqual(row.cell_of(moment), 2 * index + 1)
                self.assertEqual(compare(moment, row.moments()[index]), 0)
                self.assertEqual(compare(moment, moments[index]), 0)
                self.assertEqual(sign_then(curve, moment), 0)
                self.assertGreater(times_nought(curve, moment), 0)
            lots = {-1: ((1,), (0,)), 0: ((0, 1),), 1: ((0,), (1,))}
            signs = [row.signs(cell)[0] for cell in range(2 * len(found) + 1)]
            self.assertEqual(rankings, [lots[sign] for sign in signs])
            for sign in (-1, 0, 1):
                cells = [cell for cell in range(len(signs)) if signs[cell] == sign]
                self.assertEqual(when([curve], ("is", 0, "x", sign), "x"), cells)
                self.assertIs(decided([curve], ("some", "x", ("is", 0, "x", sign))), cells != [])
                self.assertIs(desk.tell(("some", "x", ("is", "c", "x", sign))), cells != [])
            self.check_first(desk, found, signs)
            self.assertEqual((signs[0], signs[-1]), (far_sign(curve, -1), far_sign(curve, 1)))

    def check_first(self, desk, found, signs):
        """That the desk finds one moment behind the other."""
        first = desk.first_from("c", (-999, 1))
        for moment in found:
            self.assertEqual(compare(first, moment), 0)
            if fraction_of(moment) is None:
                first = desk.first_from("c", finer(moment, 18).high)
            else:
                first = desk.first_from("c", pair(Fraction(*fraction_of(moment)) + Fraction(1, 10 ** 15)))
        self.assertIsNone(first)
        self.assertEqual(len(signs), 2 * len(found) + 1)

    def test_against_fractions(self):
        for curve in CURVES:
            row = Row((curve,))
            for place in [Fraction(n, 5) for n in range(-20, 21)]:
                sign = sign_at(curve, pair(place))
                self.assertEqual(sign_then(curve, at(pair(place))), sign)
                self.assertEqual(row.signs(row.cell_of(at(pair(place)))), (sign,))

    def test_known_facts_together(self):
        for one in CURVES[:9]:
            for other in CURVES[:9]:
                both = [moment for moment in noughts(one) if sign_then(other, moment) == 0]
                shared = common(one, other)
                self.assertEqual([moment for moment in both if fraction_of(moment) != NIL],
                                 [moment for moment in noughts(one) if fraction_of(moment) != NIL
                                  and sign_then(shared, moment) == 0])
                self.assertIs(decided([one, other], ("some", "x", ("and", ("is", 0, "x", 0), ("is", 1, "x", 0)))), both != [])
                if shared.terms == ((UNIT, 0, NIL),):
                    self.assertTrue(is_apart(one, other, apart(one, other)))
                    self.assertTrue(all(fraction_of(moment) == NIL for moment in both))


class Flows(unittest.TestCase):

    def test_contents_in_rows_sayings_and_a_desk(self):
        contents = [content(FLOW, vessel) for vessel in range(4)]
        row = Row(contents)
        self.assertEqual(row.signs(row.cell_of(at((5, 1)))), (1, 1, 1, 1))
        desk = Desk()
        for name, curve in zip("abcd", contents):
            desk.put(name, curve)
        moments, rankings = orders(contents)
        self.assertEqual(rankings[-1][-1], (0,))
        for one in range(4):
            for other in range(4):
                since = since_when(FLOW, one, other)
                if one == other:
                    self.assertIsNone(since)
                    continue
                names = "abcd"[one], "abcd"[other]
                crossings = desk.crossings(*names)
                self.assertEqual(len(crossings), len([0 for moment in moments if sign_then(
                    plus(contents[one], scaled(contents[other], (-1, 1))), moment) == 0]))
                ahead = [lot for lot in rankings[-1] if one in lot or other in lot]
                self.assertEqual(since is not None, one in ahead[0] and other not in ahead[0])
                if since is not None and fraction_of(since) != NIL:
                    self.assertEqual(compare(since, crossings[-1]), 0)
        for vessel in range(4):
            for moment in fullest(FLOW, vessel):
                self.assertEqual(sign_then(slope(contents[vessel]), moment), 0)
                self.assertEqual(sign_then(slope(slope(contents[vessel])), moment), -1)
        # what has gone out is never below 0 behind 0
        gone = [passed(FLOW, pipe) for pipe in (3, 4)]
        origin = ("is", 2, "x", 1)
        self.assertIs(decided(gone + [T], ("all", "x", ("or", ("not", origin), ("and", ("is", 0, "x", 1), ("is", 1, "x", 1))))), True)

    def test_desk_of_contents(self):
        desk = Desk()
        desk.put("first", content(FLOW, 0))
        desk.put("second", content(FLOW, 1))
        self.assertEqual(desk_of(desk.journal()).journal(), desk.journal())
        self.assertEqual(len(desk.crossings("first", "second")), 1)
        self.assertEqual(compare(desk.crossings("first", "second")[0], since_when(FLOW, 1, 0)), 0)


class EveryCall(unittest.TestCase):

    def calls(self):
        """Each function with arguments that it takes."""
        curve, other, moment = CURVES[1], CURVES[5], noughts(CURVES[1])[0]
        saying = ("some", "x", ("is", 0, "x", 0))
        return [
            (plus, curve, other), (times, curve, other), (scaled, curve, (2, 3)), (stretched, curve, (2, 3)), (slope, curve),
            (area, curve), (at_nought, curve), (trimmed, curve), (quotient, curve, other), (common, curve, other), (plain, curve),
            (bare, curve), (apart, curve, CURVES[2]), (sign_at, curve, (2, 3)), (far_sign, curve, 1), (order_at_nought, curve),
            (Moment, curve, NIL, (1000, 1)), (at, (2, 3)), (finer, moment, 18), (compare, moment, at(NIL)), (sign_then, curve, moment),
            (fraction_of, moment), (polynomial_of, moment), (noughts, curve), (times_nought, curve, moment), (most_noughts, curve),
            (Row, [curve, other]), (orders, [curve, other]), (is_saying, 1, (), saying), (decided, [curve], saying),
            (when, [curve], saying, "y"), (content, FLOW, 2), (passed, FLOW, 2), (fullest, FLOW, 2), (since_when, FLOW, 1, 0),
            (curve_text, curve), (read_curve, "t + e^(1)"), (desk_of, "a = t\n"), (Flow, (UNIT,), ((0, -1, UNIT),)),
        ]

    def test_equal_answers_and_arguments_kept(self):
        for one, other in zip(self.calls(), self.calls()):
            ahead = repr([self.shown(thing) for thing in one[1:]])
            first, second = one[0](*one[1:]), other[0](*other[1:])
            self.assertEqual(self.shown(first), self.shown(second), one[0])
            self.assertEqual(repr([self.shown(thing) for thing in one[1:]]), ahead)
            self.assertEqual(self.shown(one[0](*one[1:])), self.shown(first))
            if isinstance(first, list):
                self.assertIsNot(first, one[0](*one[1:]))

    def shown(self, thing):
        """What a thing keeps, in a form that can be compared."""
        if isinstance(thing, (list, tuple)):
            return [self.shown(part) for part in thing]
        if isinstance(thing, Curve):
            return ("curve", thing.terms)
        if isinstance(thing, Moment):
            return ("moment", thing.curve.terms, thing.low, thing.high)
        if isinstance(thing, Row):
            return ("row", [curve.terms for curve in thing.curves], [self.shown(moment) for moment in thing.moments()])
        if isinstance(thing, Flow):
            return ("flow", thing.starts, thing.pipes)
        if isinstance(thing, Desk):
            return ("desk", thing.journal())
        return thing

    def test_no_class_is_equal_to_another(self):
        things = [CURVES[0], at(NIL), Row([T]), FLOW, Desk()]
        for one in things:
            for other in things + odd_things():
                if one is not other and not (isinstance(one, Curve) and isinstance(other, Curve)):
                    self.assertFalse(one == other)
                    self.assertTrue(one != other)

    def test_few_calls_deep(self):
        # so that nothing comes near the limit, whatever is judged
        limit = sys.getrecursionlimit()
        depth, frame = 0, sys._getframe()
        while frame:
            depth, frame = depth + 1, frame.f_back
        sys.setrecursionlimit(depth + 60)
        try:
            inner = ("is", 0, "x", 0)
            for _ in range(39):
                inner = ("not", inner)
            self.assertIs(is_saying(1, ("x",), inner), False)
            deepest = ("some", "x", ("all", "y", ("some", "z", ("all", "w", ("not", ("not", ("not", ("is", 0, "x", 0))))))))
            self.assertIs(decided([CURVES[1]], deepest), True)
            self.assertEqual(len(noughts(product([CURVES[1], CURVES[2], less_fraction(3), rate(1)]))), 4)
            self.assertEqual(len(fullest(FLOW, 2)), 1)
        finally:
            sys.setrecursionlimit(limit)

    def test_small_curves(self):
        for curve in SMALL[1:8]:
            self.assertLessEqual(sum(times_nought(curve, moment) for moment in noughts(curve)), most_noughts(curve))


if __name__ == "__main__":
    unittest.main()
