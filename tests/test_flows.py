"""Flows of vessels [7.1], when a vessel is at its fullest, and since when one has more than another [7.2]."""

import random
import unittest
from fractions import Fraction
from math import factorial

from namedmoments.curves import Curve, at_nought, plus, scaled, slope
from namedmoments.errors import BadFlow, NoPipe, NoVessel, TooMany
from namedmoments.flows import Flow, content, fullest, passed, since_when
from namedmoments.moments import Moment, at, compare, finer, fraction_of, sign_then
from namedmoments.noughts import noughts
from namedmoments.reading import read_curve
from namedmoments.signs import sign_at
from namedmoments.texts import curve_text
from tests.helpers import NIL, UNIT, check_form, check_name, curve_of, deep, ends, no_fractions, no_numbers, odd_things
from tests.helpers import pair, worth

NOUGHT = Curve(())
HALF, THIRD, QUARTER, TWO = (1, 2), (1, 3), (1, 4), (2, 1)
FLOWS = [
    (((1, 1),), ()),
    ((NIL,), ()),
    (((7, 3),), ((0, -1, UNIT),)),
    (((7, 3),), ((0, -1, UNIT), (0, -1, HALF), (0, -1, (5, 2)))),
    ((UNIT, NIL), ((0, 1, TWO), (1, -1, UNIT))),
    ((UNIT, NIL), ((1, 0, TWO),)),
    ((UNIT, (2, 1), NIL), ((0, 1, HALF), (0, 2, HALF), (0, 1, UNIT), (1, 2, (3, 4)))),
    ((UNIT, NIL, NIL, NIL, NIL), ((0, 1, UNIT), (1, 2, UNIT), (2, 3, UNIT), (3, 4, UNIT), (4, -1, UNIT))),
    ((UNIT, NIL, (5, 7), NIL), ((0, 1, TWO), (1, 2, TWO), (2, 3, TWO), (0, 3, UNIT), (1, -1, UNIT), (3, -1, (7, 2)))),
    ((NIL, NIL, (3, 1)), ((2, 1, QUARTER), (1, 0, QUARTER), (0, -1, QUARTER))),
    (((10 ** 29, 7), (1, 10 ** 29), UNIT, UNIT, NIL), ((4, 3, THIRD), (3, 2, (2, 3)), (2, 1, (4, 1)), (1, 0, THIRD),
                                                      (3, 2, THIRD), (4, 0, (4, 3)))),
    ((UNIT, UNIT, UNIT), ((0, 1, THIRD), (1, 2, HALF))),
    ((UNIT, UNIT, UNIT, UNIT, UNIT), ((0, 4, UNIT), (1, 4, UNIT), (2, 4, UNIT), (3, 4, UNIT), (0, 1, UNIT), (1, 2, UNIT),
                                      (2, 3, UNIT), (0, 3, (2, 1)))),
]


class Case(unittest.TestCase):

    def bad(self, part, starts, pipes):
        with self.assertRaises(BadFlow) as got:
            Flow(starts, pipes)
        self.assertEqual(got.exception.part, part)
        self.assertIs(got.exception.part.__class__, part.__class__)

    def flows(self):
        return [Flow(starts, pipes) for starts, pipes in FLOWS]

    def random_flow(self, chance, rates):
        many = chance.randint(1, 5)
        starts = tuple([pair(Fraction(chance.randint(0, 9), chance.choice([1, 1, 3]))) for _ in range(many)])
        pipes = []
        for _ in range(chance.randint(0, 8)):
            one = chance.randrange(many)
            other = chance.choice([-1] + list(range(one + 1, many)))
            pipes.append((one, other, pair(Fraction(chance.choice(rates)))))
        try:
            return Flow(starts, tuple(pipes))
        except BadFlow:
            return self.random_flow(chance, rates)


class Contents(Case):

    def check(self, flow):
        whole = NOUGHT
        for vessel, start in enumerate(flow.starts):
            found = content(flow, vessel)
            check_form(self, found)
            self.assertEqual(at_nought(found), start)
            whole = plus(whole, found)
            steep = NOUGHT
            for index, (one, other, rate) in enumerate(flow.pipes):
                if one == vessel:
                    steep = plus(steep, scaled(found, (-rate[0], rate[1])))
                if other == vessel:
                    steep = plus(steep, scaled(content(flow, one), rate))
            self.assertEqual(slope(found), steep)
        for index, (one, other, rate) in enumerate(flow.pipes):
            gone = passed(flow, index)
            check_form(self, gone)
            self.assertEqual(at_nought(gone), NIL)
            self.assertEqual(slope(gone), scaled(content(flow, one), rate))
            if other == -1:
                whole = plus(whole, gone)
        self.assertEqual(whole, curve_of({(0, 0): sum(worth(start) for start in flow.starts)}))

    def test_each_kind(self):
        for flow in self.flows():
            self.check(flow)

    def test_by_chance(self):
        chance = random.Random(31)
        for rates in [["1"], ["1/2", "1/4", "3/4", "1"], ["1/3", "2/3", "4/3"], ["1/3", "1/2", "1", "1/4"]] * 8:
            self.check(self.random_flow(chance, rates))

    def test_by_hand(self):
        flow = Flow((UNIT, NIL), ((0, 1, TWO), (1, -1, UNIT)))
        self.assertEqual(curve_text(content(flow, 0)), "e^(-2)")
        self.assertEqual(curve_text(content(flow, 1)), "-2 e^(-2) + 2 e^(-1)")
        self.assertEqual(curve_text(passed(flow, 0)), "-e^(-2) + 1")
        self.assertEqual(curve_text(passed(flow, 1)), "e^(-2) - 2 e^(-1) + 1")
        flow = Flow((UNIT, NIL, NIL), ((0, 1, UNIT), (1, 2, UNIT)))
        self.assertEqual([curve_text(content(flow, vessel)) for vessel in range(3)],
                         ["e^(-1)", "t e^(-1)", "-e^(-1) - t e^(-1) + 1"])
        flow = Flow((UNIT, NIL), ((0, 1, HALF), (0, 1, QUARTER), (0, -1, QUARTER)))
        self.assertEqual([curve_text(content(flow, vessel)) for vessel in range(2)], ["e^(-1)", "-3/4 e^(-1) + 3/4"])
        self.assertEqual([curve_text(passed(flow, pipe)) for pipe in range(3)],
                         ["-1/2 e^(-1) + 1/2", "-1/4 e^(-1) + 1/4", "-1/4 e^(-1) + 1/4"])
        self.assertEqual(content(Flow((NIL,), ((0, -1, UNIT),)), 0), NOUGHT)
        self.assertEqual(passed(Flow((NIL,), ((0, -1, UNIT),)), 0), NOUGHT)

    def test_equal_rates_bring_powers(self):
        for rate in [UNIT, HALF, (4, 1), (3, 4), THIRD]:
            flow = Flow((UNIT, NIL, NIL, NIL, NIL), tuple([(vessel, vessel + 1, rate) for vessel in range(4)] + [(4, -1, rate)]))
            for vessel in range(5):
                expected = curve_of({(vessel, -worth(rate)): worth(rate) ** vessel / factorial(vessel)})
                self.assertEqual(content(flow, vessel), expected)

    def test_no_vessel_and_no_pipe(self):
        flow = Flow((UNIT, NIL), ((0, 1, TWO), (1, -1, UNIT), (0, 1, UNIT)))
        for thing in no_numbers(1):
            with self.assertRaises(NoVessel):
                content(flow, thing)
            with self.assertRaises(NoVessel):
                fullest(flow, thing)
            for other in (0, thing):
                with self.assertRaises(NoVessel):
                    since_when(flow, thing, other)
                with self.assertRaises(NoVessel):
                    since_when(flow, other, thing)
        for thing in no_numbers(2):
            with self.assertRaises(NoPipe):
                passed(flow, thing)
        with self.assertRaises(NoPipe):
            passed(Flow((UNIT,), ()), 0)


class Flows(Case):

    def test_attributes(self):
        for starts, pipes in FLOWS:
            flow = Flow(starts, pipes)
            self.assertEqual((flow.starts, flow.pipes), (starts, pipes))
            self.assertIs(flow.starts.__class__, tuple)
            self.assertIs(flow.pipes.__class__, tuple)

    def test_equal(self):
        for one in FLOWS:
            for other in FLOWS:
                self.assertEqual(Flow(*one) == Flow(*other), one == other)
                self.assertEqual(Flow(*one) != Flow(*other), one != other)
            for thing in odd_things() + [one, one[0], at(NIL)]:
                self.assertFalse(Flow(*one) == thing)
        self.assertNotEqual(Flow((UNIT, UNIT), ((0, -1, UNIT), (1, -1, UNIT))), Flow((UNIT, UNIT), ((1, -1, UNIT), (0, -1, UNIT))))

    def test_starts(self):
        pipes = ((0, -1, UNIT),)
        wrong = odd_things() + [(), [UNIT], (UNIT,) * 6, ((-1, 1),), (UNIT, (-1, 10 ** 29)), (UNIT, None), [UNIT, UNIT], UNIT,
                                ((1, 2, 3),), (1,), {0: UNIT}, ((2, 4),), ((True, 1),), (UNIT, [1, 1]), (UNIT,) * 99999,
                                (deep(lambda thing: (thing,)),), (UNIT, Curve(()))]
        for thing in wrong + [(thing,) for thing in no_fractions()] + [(NIL, thing) for thing in no_fractions()]:
            for other in (pipes, None, [pipes], ((0, 0, UNIT),)):
                self.bad("starts", thing, other)
        Flow((NIL,) * 5, ())
        Flow(((10 ** 30 - 1, 1),), pipes)

    def test_pipes(self):
        starts = (UNIT, UNIT)
        wrong = [thing for thing in odd_things() if not isinstance(thing, tuple)]
        for thing in wrong + [[], [(0, 1, UNIT)], ((0, 1, (1, 4)),) * 9, (None,) * 9, {0: (0, 1, UNIT)}, ((0, 1),) * 99999]:
            self.bad("pipes", starts, thing)
        Flow(starts, ((0, 1, HALF),) * 8)

    def test_each_pipe(self):
        starts = (UNIT, UNIT, UNIT)
        wrong = odd_things() + [(), (0, 1), (0, 1, UNIT, UNIT), [0, 1, UNIT], (0, 0, UNIT), (2, 2, UNIT), (3, 0, UNIT), (0, 3, UNIT),
                                (-1, 0, UNIT), (0, -2, UNIT), (-1, -1, UNIT), (True, 2, UNIT), (0, True, UNIT), (False, 1, UNIT),
                                (0, None, UNIT), (None, 1, UNIT), ("0", 1, UNIT), (0, (1,), UNIT), ((0,), 1, UNIT), (0, 10 ** 29, UNIT),
                                (0, 1, NIL), (0, 1, (-1, 1)), (0, 1, (5, 1)), (0, 1, (1, 5)), (0, 1, (17, 4)), (0, 1, (4, 10 ** 29)),
                                (0, 1, (10 ** 29, 1)), (0, 1, (2, 4)), (0, 1, 1), (0, 1, [1, 1]), (10 ** 29, 1, UNIT), (0, 1, (True, 1))]
        wrong += [(0, 1, thing) for thing in no_fractions()]
        for thing in wrong:
            self.bad(0, starts, (thing,))
            self.bad(1, starts, ((0, 1, UNIT), thing))
            self.bad(2, starts, ((0, 1, UNIT), (1, 0, UNIT), thing, None))
            self.bad(0, starts, (thing, (0, 1, (4, 1)), (1, 0, (4, 1)), (0, 1, UNIT)))
            self.bad(7, starts, ((0, 1, QUARTER),) * 7 + (thing,))

    def test_rings(self):
        starts = (UNIT,) * 5
        for pipes in [((0, 1, UNIT), (1, 0, UNIT)), ((0, 1, UNIT), (1, 2, UNIT), (2, 0, UNIT)),
                      ((4, 3, UNIT), (3, 2, UNIT), (2, 1, UNIT), (1, 0, UNIT), (0, 4, UNIT)),
                      ((0, 1, UNIT), (1, -1, UNIT), (2, 3, UNIT), (3, 4, UNIT), (4, 2, UNIT)),
                      ((0, 1, UNIT), (1, 2, UNIT), (2, 1, UNIT), (2, 3, UNIT), (3, 4, UNIT)),
                      ((0, 1, (4, 1)), (1, 0, (4, 1)), (0, 2, (4, 1))), ((0, 1, THIRD), (0, 2, HALF), (2, 0, UNIT))]:
            self.bad("rings", starts, pipes)
        Flow(starts, ((0, 1, UNIT), (0, 2, UNIT), (1, 3, UNIT), (2, 3, UNIT), (3, 4, UNIT), (0, 4, UNIT), (1, 4, UNIT)))
        Flow(starts, ((4, 3, UNIT), (3, 2, UNIT), (2, 1, UNIT), (1, 0, UNIT), (4, 0, UNIT), (0, -1, UNIT)))

    def test_rates(self):
        starts = (UNIT, UNIT, UNIT)
        for pipes in [((0, 1, (4, 1)), (0, 1, QUARTER)), ((0, 1, (2, 1)), (0, 2, (2, 1)), (0, -1, UNIT)), ((0, 1, HALF), (0, 2, THIRD)),
                      ((1, 2, QUARTER), (1, -1, THIRD)), ((0, 1, UNIT), (2, -1, THIRD), (2, -1, (3, 4))),
                      ((0, -1, (7, 2)), (0, -1, (3, 4)))]:
            self.bad("rates", starts, pipes)
        Flow(starts, ((0, 1, (2, 1)), (0, 2, (2, 1)), (1, 2, THIRD), (2, -1, HALF)))
        Flow(starts, ((0, 1, HALF), (0, 1, HALF), (0, 2, THIRD), (0, 2, (2, 3)), (1, -1, (4, 1))))

    def test_the_first_that_is_wrong(self):
        self.bad("starts", (), [])
        self.bad("starts", [UNIT], ((0, 0, UNIT),))
        self.bad("pipes", (UNIT,), [(0, 0, UNIT)])
        self.bad("pipes", (UNIT, UNIT), ((0, 1, UNIT), (1, 0, UNIT)) * 5)
        self.bad(1, (UNIT, UNIT), ((0, 1, (4, 1)), (0, 1, None), (1, 0, UNIT)))
        self.bad(2, (UNIT, UNIT), ((0, 1, (4, 1)), (1, 0, (4, 1)), (0, 1, (5, 1)), (0, 1, (6, 1))))
        self.bad("rings", (UNIT, UNIT), ((0, 1, (4, 1)), (0, 1, (4, 1)), (1, 0, THIRD), (1, 0, HALF)))


class Fullest(Case):

    def test_chains(self):
        for rate in [UNIT, HALF, (4, 1), (3, 4), THIRD, (1, 4)]:
            flow = Flow(((5, 3), NIL, NIL, NIL, NIL), tuple([(vessel, vessel + 1, rate) for vessel in range(4)] + [(4, -1, rate)]))
            for vessel in range(1, 5):
                found = fullest(flow, vessel)
                self.assertEqual([fraction_of(moment) for moment in found], [pair(vessel / worth(rate))])
                check_name(self, found[0])
            self.assertEqual(fullest(flow, 0), [])

    def test_one(self):
        flow = Flow((UNIT, NIL), ((0, 1, TWO), (1, -1, UNIT)))
        found = fullest(flow, 1)
        self.assertEqual(len(found), 1)
        self.assertEqual(compare(found[0], Moment(read_curve("-2 + e^(1)"), NIL, UNIT)), 0)
        self.assertEqual(fullest(flow, 0), [])

    def test_two(self):
        # a first vessel soon empty, and one that keeps long what comes back late
        flow = Flow(((100, 1), NIL, (20, 1), NIL, NIL), ((0, 1, (4, 1)), (1, -1, (4, 1)), (2, 3, QUARTER), (3, 4, QUARTER),
                                                        (4, 1, QUARTER)))
        found = fullest(flow, 1)
        self.assertEqual(len(found), 2)
        self.assertEqual(compare(found[0], found[1]), -1)
        steep = slope(content(flow, 1))
        for moment in found:
            self.assertEqual(sign_then(steep, moment), 0)
            low, high = ends(finer(moment, 6))
            self.assertEqual((sign_at(steep, pair(low)), sign_at(steep, pair(high))), (1, -1))
            self.assertGreater(low, 0)

    def test_against_the_slope(self):
        chance = random.Random(33)
        for rates in [["1"], ["1/2", "1/4", "3/4", "1"], ["1/3", "2/3", "4/3"]] * 8:
            flow = self.random_flow(chance, rates)
            for vessel in range(len(flow.starts)):
                steep = slope(content(flow, vessel))
                expected = []
                for moment in noughts(steep) if steep.terms else []:
                    low, high = ends(finer(moment, 12))
                    if (sign_at(steep, pair(low)), sign_at(steep, pair(high))) == (1, -1) and compare(moment, at(NIL)) > 0:
                        expected.append(moment)
                found = fullest(flow, vessel)
                self.assertIs(found.__class__, list)
                self.assertEqual(len(found), len(expected))
                self.assertEqual([compare(*both) for both in zip(found, expected)], [0] * len(found))

    def test_not_at_0_nor_before(self):
        # so fed, a vessel is at its fullest at 0, or ahead of it
        for start, many in [((1, 1), 1), ((2, 1), 0), ((3, 1), 0)]:
            flow = Flow((UNIT, start), ((0, 1, TWO), (1, -1, UNIT)))
            self.assertEqual(len(fullest(flow, 1)), many)
        for flow in [Flow((UNIT,), ()), Flow((NIL,), ((0, -1, UNIT),)), Flow((UNIT,), ((0, -1, THIRD),)), Flow((UNIT, NIL), ((0, 1, UNIT),))]:
            for vessel in range(len(flow.starts)):
                self.assertEqual(fullest(flow, vessel), [])

    def test_too_many(self):
        flow = Flow((UNIT, UNIT, UNIT), ((0, 1, THIRD), (1, 2, HALF)))
        for vessel in (1, 2):
            with self.assertRaises(TooMany) as got:
                fullest(flow, vessel)
            self.assertEqual(got.exception.most, 4)
        self.assertEqual(fullest(flow, 0), [])


class SinceWhen(Case):

    def test_none(self):
        flow = Flow((UNIT, UNIT, (2, 1), NIL), ((0, 1, UNIT), (2, -1, UNIT)))
        for one, other in [(0, 0), (1, 1), (3, 3), (0, 1), (2, 1), (3, 0), (0, 2), (3, 1)]:
            self.assertIsNone(since_when(flow, one, other))
        equal = Flow((UNIT, UNIT), ((0, -1, HALF), (1, -1, QUARTER), (1, -1, QUARTER)))
        self.assertIsNone(since_when(equal, 0, 1))
        self.assertIsNone(since_when(equal, 1, 0))

    def test_all_along(self):
        flow = Flow((UNIT, UNIT, (2, 1), NIL), ((0, 1, UNIT), (2, -1, UNIT)))
        for one, other in [(1, 0), (2, 0), (0, 3), (1, 3), (2, 3)]:
            found = since_when(flow, one, other)
            check_name(self, found)
            self.assertEqual(fraction_of(found), NIL)
        # they hold the same at 0, and before 0
        flow = Flow((UNIT, UNIT), ((0, -1, UNIT), (1, -1, TWO)))
        self.assertEqual(fraction_of(since_when(flow, 0, 1)), NIL)
        self.assertIsNone(since_when(flow, 1, 0))

    def test_behind_0(self):
        flow = Flow((UNIT, NIL), ((0, 1, UNIT),))
        found = since_when(flow, 1, 0)
        check_name(self, found)
        self.assertEqual(compare(found, Moment(read_curve("-2 + e^(1)"), NIL, UNIT)), 0)
        self.assertIsNone(since_when(flow, 0, 1))
        flow = Flow((UNIT, NIL), ((0, 1, UNIT), (1, -1, UNIT)))
        self.assertEqual(fraction_of(since_when(flow, 1, 0)), UNIT)
        # 1 - t, halved soon, is below 1 again
        flow = Flow((UNIT, NIL, NIL), ((0, 1, UNIT), (1, 2, UNIT), (2, -1, UNIT)))
        self.assertEqual([fraction_of(since_when(flow, 2, other)) for other in (0, 1)], [None, (2, 1)])
        self.assertEqual(compare(since_when(flow, 2, 0), Moment(read_curve("-2 + t^2"), UNIT, TWO)), 0)

    def test_against_the_contents(self):
        chance = random.Random(35)
        for rates in [["1"], ["1/2", "1/4", "3/4", "1"], ["1/3", "2/3", "4/3"]] * 6:
            flow = self.random_flow(chance, rates)
            for one in range(len(flow.starts)):
                for other in range(len(flow.starts)):
                    found = since_when(flow, one, other)
                    lead = plus(content(flow, one), scaled(content(flow, other), (-1, 1)))
                    places = [Fraction(n, 8) for n in range(0, 400)] + [Fraction(999)]
                    if found is None:
                        self.assertLessEqual(sign_at(lead, (999, 1)), 0)
                        continue
                    low, high = ends(finer(found, 12))
                    self.assertTrue(all(sign_at(lead, pair(place)) == 1 for place in places if place > high))
                    if fraction_of(found) != NIL:
                        self.assertEqual(sign_then(lead, found), 0)
                        self.assertGreater(high, 0)
                        self.assertEqual(compare(found, at(NIL)), 1)

    def test_too_many(self):
        flow = Flow((UNIT, UNIT, UNIT, UNIT), ((0, 1, THIRD), (1, 2, HALF)))
        for one, other in [(1, 0), (0, 1), (2, 3), (3, 1), (1, 2)]:
            with self.assertRaises(TooMany) as got:
                since_when(flow, one, other)
            self.assertEqual(got.exception.most, 4)
        self.assertIsNone(since_when(flow, 2, 2))
        self.assertEqual(fraction_of(since_when(flow, 3, 0)), NIL)
        with self.assertRaises(NoVessel):
            since_when(flow, 1, 4)
        with self.assertRaises(NoVessel):
            since_when(flow, -1, 1)


if __name__ == "__main__":
    unittest.main()
