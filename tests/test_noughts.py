"""The moments at which a curve is nought, and how often it is [4.2]."""

import random
import unittest
from fractions import Fraction

from namedmoments.common import trimmed
from namedmoments.curves import Curve, area, at_nought, plus, scaled, slope, times
from namedmoments.errors import AllNought, TooMany
from namedmoments.moments import Moment, at, compare, finer, fraction_of, sign_then
from namedmoments.noughts import most_noughts, noughts, times_nought
from namedmoments.reading import read_curve
from namedmoments.signs import far_sign, sign_at
from tests.helpers import NIL, SMALL, UNIT, check_name, check_near_to, curve_of, ends, less_fraction, log_pair
from tests.helpers import many_terms, pair, power, product, rate, worth

NOUGHT = Curve(())
T = Curve(((UNIT, 1, NIL),))
GAP = Fraction(1, 10 ** 20)


def close_to(worth_of):
    """Two Fractions around one."""
    return worth_of - GAP, worth_of + GAP


def root_pair(number):
    """Two Fractions, very close, between which the root of a number is."""
    low, high = Fraction(0), Fraction(number)
    while high - low > GAP:
        middle = Fraction(round((low + high) / 2 * 2 ** 90), 2 ** 90)
        low, high = (middle, high) if middle * middle < number else (low, middle)
    return low, high


def turned(both):
    """The same for what is as far on the other side of 0."""
    return -both[1], -both[0]


def solved(curve, low, high):
    """Two Fractions, very close, between which a curve that is below 0 at low and not at high is nought."""
    low, high = Fraction(low), Fraction(high)
    while high - low > GAP:
        middle = Fraction(round((low + high) / 2 * 2 ** 90), 2 ** 90)
        low, high = (middle, high) if sign_at(curve, pair(middle)) < 0 else (low, middle)
    return low, high


def part(chance, bottom):
    """A curve and pairs of Fractions around its noughts."""
    q = Fraction(chance.choice([n for n in range(-2 * bottom, 2 * bottom + 1) if n]), bottom)
    kind = chance.randrange(7)
    if kind == 0:
        x = Fraction(chance.randint(-20, 20), chance.choice([1, 2, 3, 7]))
        return less_fraction(x), [close_to(x)]
    if kind == 1:
        number = chance.choice([2, 3, 5, 7])
        return curve_of({(2, 0): 1, (0, 0): -number}), [root_pair(number), turned(root_pair(number))]
    if kind == 2:
        number = chance.choice([2, 3, 10])
        both = sorted([end / q for end in log_pair(Fraction(number))])
        return curve_of({(0, q): 1, (0, 0): -number}), [tuple(both)]
    if kind == 3:
        curve = curve_of({(1, abs(q)): 1, (0, 0): -1})
        return curve, [solved(curve, 0, 4)]
    if kind == 4:
        # below 0 at 0, and e ^ (q t) outgrows each line
        curve = curve_of({(0, abs(q)): 1, (1, 0): -1, (0, 0): -2})
        return curve, [solved(curve, 0, 100), solved_back(curve)]
    if kind == 5:
        return curve_of({(0, q): 1, (1, 0): -q, (0, 0): -1}), [close_to(Fraction(0))] * 2
    return curve_of({(2, 0): 1, (0, q): 2, (0, 0): 1}), []


def solved_back(curve):
    """The same between -100 and 0, where the curve is above 0 at -100 and below it at 0."""
    other = curve_of({(k, -worth(q)): worth(c) * (-1) ** k for c, k, q in curve.terms})
    return turned(solved(other, 0, 100))


class Case(unittest.TestCase):

    def check(self, curve, expected):
        """That the noughts are what lies between the expected pairs, which tell how often by being there so often."""
        found = noughts(curve)
        unlike = sorted({both for both in expected})
        self.assertIs(found.__class__, list)
        self.assertEqual(len(found), len(unlike), curve.terms)
        counts = []
        for moment, both in zip(found, unlike):
            check_name(self, moment)
            check_near_to(self, moment, *both)
            counts.append(times_nought(curve, moment))
            self.assertEqual(sign_then(curve, moment), 0)
        self.assertEqual(counts, [expected.count(both) for both in unlike])
        for index in range(1, len(found)):
            self.assertEqual(compare(found[index - 1], found[index]), -1)
        self.assertLessEqual(sum(counts), most_noughts(curve))
        self.check_signs(curve, found, counts)
        return found

    def check_signs(self, curve, found, counts):
        """That the curve changes its sign just at those noughts that it has an odd number of times."""
        sign = far_sign(curve, -1)
        for count in counts:
            sign = -sign if count % 2 else sign
        self.assertEqual(sign, far_sign(curve, 1))


class KnownParts(Case):

    def test_products(self):
        chance = random.Random(11)
        for bottom in [1, 2, 3, 4] * 12:
            parts = [part(chance, bottom) for _ in range(chance.randint(1, 4))]
            counts = [chance.choice([1, 1, 2, 3]) for _ in parts]
            curve = product([one for (one, _), many in zip(parts, counts) for _ in range(many)])
            expected = [both for (_, pairs), many in zip(parts, counts) for both in pairs for _ in range(many)]
            self.check(curve, expected)
            self.check(scaled(curve, (-7, 3)), expected)
            self.check(times(curve, rate(Fraction(-5, bottom))), expected)

    def test_each_kind(self):
        ln2 = log_pair(Fraction(2))
        self.check(T, [close_to(Fraction(0))])
        self.check(less_fraction(Fraction(-7, 3)), [close_to(Fraction(-7, 3))])
        self.check(read_curve("-2 + t^2"), [root_pair(2), turned(root_pair(2))])
        self.check(read_curve("-2 + e^(1)"), [ln2])
        self.check(read_curve("-2 e^(-3) + e^(-2)"), [ln2])
        self.check(read_curve("e^(-1) - 2"), [turned(ln2)])
        self.check(read_curve("-2 t^2 + t^2 e^(1)"), [close_to(Fraction(0))] * 2 + [ln2])
        self.check(read_curve("-2 - t + e^(1)"), [part_of("-2 - t + e^(1)", 0, 3), turned(part_of("e^(-1) - 2 + t", 0, 9))])

    def test_touching_at_0(self):
        origin = close_to(Fraction(0))
        self.check(read_curve("-1 - t + e^(1)"), [origin] * 2)
        self.check(read_curve("-1 - t - 1/2 t^2 + e^(1)"), [origin] * 3)
        self.check(times(read_curve("-1 - t + e^(1)"), read_curve("-1 + e^(1/2)")), [origin] * 3)
        self.check(times(read_curve("-1 - t + e^(1)"), T), [origin] * 3)
        self.check(product([read_curve("-1 + e^(1)")] * 5 + [T] * 2), [origin] * 7)
        steps = product([read_curve("-1 + e^(1)"), read_curve("-1 + e^(3/4)"), read_curve("-1 + e^(1/2)"), T])
        self.check(times(steps, less_fraction(Fraction(1, 10 ** 9))), [origin] * 4 + [close_to(Fraction(1, 10 ** 9))])
        self.check(times(steps, less_fraction(Fraction(-1, 10 ** 9))), [origin] * 4 + [close_to(Fraction(-1, 10 ** 9))])

    def test_beside_0(self):
        origin = close_to(Fraction(0))
        for x in [Fraction(1, 10 ** 15), -2 * GAP, 2 * GAP]:
            both = x - GAP / 9, x + GAP / 9
            narrow = -GAP / 9, GAP / 9
            self.check(times(less_fraction(x), T), [narrow, both])
            self.check(times(less_fraction(x), read_curve("-1 + e^(1)")), [narrow, both])
            self.check(times(less_fraction(x), read_curve("-1 - t + e^(1)")), [narrow, narrow, both])
        self.assertEqual(len(noughts(times(T, read_curve("-1 + e^(1)")))), 1)
        self.check(times(T, read_curve("-1 + e^(1)")), [origin] * 2)

    def test_without_any(self):
        for text in ["1", "-7/3", "e^(1)", "-2 e^(-4)", "1 + t^2", "1 + e^(1)", "1 - t + e^(1)", "e^(-1) + e^(1)",
                     "1 - t + t^2 + t^2 e^(1)", "-e^(-1/4) - t^2 e^(1/2)"]:
            self.assertEqual(noughts(read_curve(text)), [])
        for text in ["t", "-3 t^3", "t^2 e^(1)", "-1/2 t e^(-7/2)"]:
            self.assertEqual(len(noughts(read_curve(text))), 1)
            self.check(read_curve(text), [close_to(Fraction(0))] * read_curve(text).terms[0][1])


def part_of(text, low, high):
    """The pair around the nought of a text between two numbers."""
    return solved(read_curve(text), low, high)


class Close(Case):

    def test_fractions(self):
        for gap in [Fraction(1, 10 ** 15), GAP]:
            for x in [Fraction(1, 3), Fraction(999), Fraction(-999), Fraction(10 ** 28 + 1, 10 ** 28)]:
                places = [x, x + gap] if x > 0 else [x, x - gap]
                expected = [(place - gap / 9, place + gap / 9) for place in places]
                one = product([less_fraction(place) for place in places])
                self.check(one, expected)
                self.check(times(one, one), expected * 2)
                self.check(times(one, less_fraction(places[0])), expected + expected[:1])
                self.check(times(one, read_curve("e^(-1/4) + 1 + t^2")), expected)
                three = times(one, less_fraction(2 * places[1] - places[0]))
                self.check(three, expected + [(2 * places[1] - places[0] - gap / 9, 2 * places[1] - places[0] + gap / 9)])

    def test_close_to_a_logarithm(self):
        for number in [Fraction(2), Fraction(1, 3), Fraction(7, 5)]:
            low, high = log_pair(number)
            for x in [low + Fraction(1, 10 ** 15), low + 2 * GAP, low - GAP]:
                # with at most 30 digits
                x = Fraction(round(x * 10 ** 28), 10 ** 28)
                curve = curve_of({(0, 1): 1, (0, 0): -number})
                both = (x - GAP / 9, x + GAP / 9)
                self.check(times(curve, less_fraction(x)), [(low, high), both])
                self.check(times(times(curve, curve), less_fraction(x)), [(low, high)] * 2 + [both])

    def test_far_away(self):
        for x in (999, -999):
            expected = [close_to(Fraction(x))]
            self.check(less_fraction(x), expected)
            self.check(times(less_fraction(x), plus(rate(Fraction(-1, 4)), rate(Fraction(1, 4)))), expected)
            self.check(times(less_fraction(x), read_curve("-2 + e^(4)")),
                       expected + [tuple(end / 4 for end in log_pair(Fraction(2)))])

    def test_at_the_edges(self):
        for numbers in [(1000,), (-1000,), (-1000, 0, 1000)]:
            found = noughts(product([less_fraction(number) for number in numbers]))
            self.assertEqual([fraction_of(moment) for moment in found], [(number, 1) for number in numbers])
            found = noughts(product([read_curve("-2 + e^(1)")] + [less_fraction(number) for number in numbers]))
            self.assertEqual(len(found), len(numbers) + 1)


class Great(Case):

    def test_powers_of_t(self):
        origin = close_to(Fraction(0))
        for doublings, more in [(6, 0), (6, 4), (6, 36)]:
            great = times(power(T, doublings), power_of_t(more))
            many = 2 ** doublings + more
            self.check(great, [origin] * many)
            self.check(times(great, read_curve("-2 + e^(1)")), [origin] * many + [log_pair(Fraction(2))])
            self.assertEqual(len(noughts(plus(great, curve_of({(0, 0): -2})))), 2)
            self.assertEqual(len(noughts(plus(great, curve_of({(0, 0): 2})))), 0)
            found = noughts(plus(great, curve_of({(0, 1): -1})))
            self.assertEqual(len(found), 3)
            for moment, near in zip(found, [-0.98, 1.02]):
                self.assertAlmostEqual(float(ends(finer(moment, 6))[0]), near, 1)
            self.assertTrue(noughts(plus(times(great, rate(1)), curve_of({(0, 0): -1}))))

    def test_products_of_great_powers(self):
        one = plus(power(T, 6), curve_of({(0, 1): -1}))
        other = plus(times(power(T, 6), power_of_t(36)), curve_of({(0, 0): -3}))
        both = times(times(one, other), read_curve("-2 + e^(1)"))
        found = noughts(both)
        self.assertEqual(len(found), 6)
        self.assertEqual([times_nought(both, moment) for moment in found], [1] * 6)
        self.assertEqual([sign_then(one, moment) == 0 for moment in found].count(True), 3)
        self.assertEqual([sign_then(other, moment) == 0 for moment in found].count(True), 2)

    def test_powers_of_a_line(self):
        x = Fraction(7, 5)
        one = power(less_fraction(x), 6)
        self.check(one, [close_to(x)] * 64)
        self.check(times(one, read_curve("-2 + e^(1)")), [log_pair(Fraction(2))] + [close_to(x)] * 64)

    def test_great_rates(self):
        one = plus(rate(1000), curve_of({(1, 0): -2, (0, 0): -5}))
        self.check(one, [(solved(one, -2, 1)), turned(solved(curve_of(
            {(0, -1000): 1, (1, 0): 2, (0, 0): -5}), 0, 9))])
        self.assertEqual(len(noughts(plus(plus(rate(1000), rate(-1000)), curve_of({(0, 0): -3})))), 2)


    def test_products_of_many_powers_and_rates(self):
        for parts in [[{(61, 2): 3, (3, -3): -1}, {(2, -4): 5, (1, "-3/2"): 1, (2, -1): -2}, {(1, "-1/2"): 1, (11, 0): -3, (73, "1/2"): 2}],
                      [{(88, "3/4"): 1, (1, "5/4"): -1, (6, "3/2"): 2}, {(3, "-7/2"): 1, (1, 2): -2}, {(0, 0): -3, (1, 0): 1}],
                      [{(87, 2): 1, (0, 3): -7, (33, 3): 1}, {(2, -3): 1, (1, -1): 2, (0, 3): -1}, {(6, -1): 1, (2, 0): -4}]]:
            parts = [curve_of(part) for part in parts]
            both = times(product(parts), parts[0])
            found = noughts(both)
            counts = [times_nought(both, moment) for moment in found]
            self.check_signs(both, found, counts)
            self.assertEqual(counts, [sum([times_nought(part, moment) for part in parts + parts[:1]]) for moment in found])
            for part in parts:
                for moment in noughts(part):
                    self.assertEqual([compare(moment, other) for other in found].count(0), 1)

    def test_far_rates(self):
        origin = close_to(Fraction(0))
        # what stands beside t and what stands beside 1 have e ^ (t / 2) + 1 in common
        one = curve_of({(3, "-147/2"): -9, (2, -1): 10, (3, -1): -4, (3, 1): -5, (2, "357/2"): 10})
        self.check(one, [origin] * 2)
        other = curve_of({(3, 4): 3, (2, "3191/4"): -5, (1, "1727/4"): 7, (1, 601): -11, (2, "-1/4"): 2, (3, "-3183/4"): 1})
        found = noughts(other)
        self.check_signs(other, found, [times_nought(other, moment) for moment in found])
        self.assertEqual(len(found), 2)
        both = times(less_fraction(Fraction(-1, 500)), plus(rate(-700), curve_of({(0, 300): -2, (1, 0): 1})))
        found = noughts(times(both, both))
        self.assertEqual([times_nought(times(both, both), moment) for moment in found], [2] * len(found))
        self.assertIn((-1, 500), [fraction_of(moment) for moment in found])


def power_of_t(many):
    """t, so many times with itself multiplied."""
    return product([T] * many)


class EightTerms(Case):

    def test_thirds_and_quarters(self):
        for text in ["3 t^3 e^(-4) - 5 t e^(-8/3) + 7 t^2 e^(-1/3) - 100 + 2 t^3 + 3 t e^(1) - 4 t^2 e^(7/3) + e^(4)",
                     "3 t^3 e^(-4) - 5 t e^(-11/4) + 7 t^2 e^(-1/4) - 100 + 2 t^3 + 3 t e^(1) - 4 t^2 e^(7/2) + e^(4)",
                     "-e^(-4) + e^(-11/3) - e^(-2) + t - t^3 + t e^(1/3) + 2 t^2 e^(5/3) - 5 t^3 e^(4)",
                     "1/7 e^(-7/2) - 3 t e^(-7/4) + t^3 e^(-1/2) - 8 t^2 + 5 t^2 e^(3/4) - t e^(5/4) + e^(9/4) - t^3 e^(4)"]:
            curve = read_curve(text)
            found = noughts(curve)
            self.assertLessEqual(len(found), most_noughts(curve))
            sign = far_sign(curve, -1)
            for moment in found:
                check_name(self, moment)
                low, high = finer(moment, 15).low, finer(moment, 15).high
                self.assertEqual(sign_at(curve, low) * sign_at(curve, high), -1)
                self.assertEqual(sign_at(curve, low), sign)
                sign = -sign
            self.assertEqual(sign, far_sign(curve, 1))
            for x in range(-60, 60):
                ahead = [moment for moment in found if compare(moment, at(pair(Fraction(x, 4)))) < 0]
                sign = far_sign(curve, -1) * (-1) ** len(ahead)
                self.assertIn(sign_at(curve, pair(Fraction(x, 4))), (sign, 0))


class InnerTurns(Case):

    def test_where_a_slope_touches(self):
        # the slope is nought twice at 1, or at ln 2, and the slope of this is, too
        for steep in ["-2 + 5 t - 4 t^2 + t^3", "4 t e^(1) - 4 t e^(2) + t e^(3)"]:
            for number in range(-9, 10):
                curve = plus(area(read_curve(steep)), curve_of({(0, 0): Fraction(number, 4)}))
                found = noughts(curve)
                self.check_signs(curve, found, [times_nought(curve, moment) for moment in found])

    def test_double_noughts_of_a_slope(self):
        whole = curve_of({(4, 0): Fraction(1, 4), (3, 0): Fraction(-4, 3), (2, 0): Fraction(5, 2), (1, 0): -2})
        self.assertEqual(slope(whole), product([less_fraction(1), less_fraction(1), less_fraction(2)]))
        for number, many in [(Fraction(1, 2), 2), (Fraction(2, 3), 1), (Fraction(7, 12), 2), (1, 0), (0, 2), (-5, 2)]:
            found = noughts(plus(whole, curve_of({(0, 0): number})))
            self.assertEqual(len(found), many, number)


class Lists(Case):

    def test_new_and_equal(self):
        curve = product([read_curve("-2 + e^(1)"), less_fraction(3), T])
        one, other = noughts(curve), noughts(curve)
        self.assertIsNot(one, other)
        self.assertEqual(one, other)
        one.clear()
        self.assertEqual(len(noughts(curve)), 3)
        self.assertEqual(noughts(Curve(((UNIT, 0, NIL),))), [])

    def test_curves_are_not_changed(self):
        curve = product([read_curve("-2 + e^(1)"), less_fraction(3), T])
        ahead = curve.terms
        moment = noughts(curve)[1]
        kept = (moment.curve.terms, moment.low, moment.high)
        times_nought(curve, moment)
        most_noughts(curve)
        self.assertEqual(curve.terms, ahead)
        self.assertEqual((moment.curve.terms, moment.low, moment.high), kept)


class TimesNought(Case):

    def test_named_by_another_curve(self):
        ln2 = Moment(read_curve("-2 + e^(1)"), NIL, (1, 1))
        others = [Moment(read_curve("-4 + e^(2)"), NIL, (1, 1)), Moment(read_curve("-2 e^(-3/2) + e^(-1/2)"), NIL, (1, 1)),
                  Moment(times(read_curve("-2 + e^(1)"), less_fraction(5)), NIL, (1, 1))]
        for moment in [ln2] + others:
            for many in range(4):
                curve = product([read_curve("-2 + e^(1)")] * many + [less_fraction(3), read_curve("1 + t + e^(1/2)")])
                self.assertEqual(times_nought(curve, moment), many)
                self.assertEqual(times_nought(times(curve, rate(-7)), moment), many)
        self.assertEqual(times_nought(read_curve("-2 + e^(1)"), at((7, 10))), 0)
        self.assertEqual(times_nought(less_fraction(3), at((3, 1))), 1)
        self.assertEqual(times_nought(power(less_fraction(3), 3), at((3, 1))), 8)

    def test_by_the_slopes(self):
        for curve in SMALL[1:8] + [times(SMALL[7], SMALL[7])]:
            for moment in noughts(curve) + [at(NIL), at((1, 2)), noughts(SMALL[7])[0]]:
                order, other = 0, curve
                while sign_then(other, moment) == 0:
                    order += 1
                    other = slope(other)
                self.assertEqual(times_nought(curve, moment), order)

    def test_at_0(self):
        for text, order in [("1", 0), ("t", 1), ("t^3 e^(1)", 3), ("-1 + e^(1)", 1), ("-1 - t + e^(1)", 2), ("1 + t", 0)]:
            for name in [T, read_curve("-1 + e^(1/2)"), read_curve("t e^(2)"), times(T, less_fraction(8))]:
                self.assertEqual(times_nought(read_curve(text), Moment(name, (-1, 1), (1, 1))), order)

    def test_errors(self):
        moment = Moment(read_curve("-2 + e^(1/3)"), NIL, (9, 1))
        with self.assertRaises(AllNought):
            times_nought(NOUGHT, moment)
        for text in ["1 + e^(1/2)", "e^(1/4)", "t - e^(3/4)"]:
            with self.assertRaises(TooMany) as got:
                times_nought(read_curve(text), moment)
            self.assertEqual(got.exception.most, 4)
        with self.assertRaises(TooMany):
            times_nought(plus(T, rate(Fraction(1, 5))), at((900, 1)))
        self.assertEqual(times_nought(read_curve("-4 + e^(2/3)"), moment), 1)
        self.assertEqual(times_nought(read_curve("1 + e^(1/4)"), at((900, 1))), 0)


class MostNoughts(Case):

    def test_each_kind(self):
        for text, most in [("1", 0), ("-3 e^(1)", 0), ("t", 1), ("t^3 e^(2)", 3), ("1 + t + t^2", 2), ("1 + e^(1)", 1),
                           ("t^3 + e^(1)", 4), ("e^(-1) + t^2 e^(-1) - t + 2 t^3 + e^(1)", 7), ("t e^(-1) + t e^(1)", 3),
                           ("e^(-1) + 1 + e^(1/2) + e^(1)", 3), ("1 + t^3 + e^(1) + t e^(1)", 5)]:
            self.assertEqual(most_noughts(read_curve(text)), most)
        self.assertEqual(most_noughts(power(T, 6)), 64)
        self.assertEqual(most_noughts(many_terms()), sum([1 + max([k for _, k, q in many_terms().terms if q == r])
                                                          for r in {q for _, _, q in many_terms().terms}]) - 1)
        self.assertEqual(most_noughts(plus(rate(Fraction(1, 59)), rate(Fraction(1, 60)))), 1)

    def test_all_nought(self):
        with self.assertRaises(AllNought):
            most_noughts(NOUGHT)


class Errors(Case):

    def test_noughts(self):
        with self.assertRaises(AllNought):
            noughts(NOUGHT)
        for text in ["e^(1/3) + e^(1/2)", "e^(1/4) + e^(1/3)", "e^(-2/3) + t + e^(5/4)"]:
            with self.assertRaises(TooMany) as got:
                noughts(read_curve(text))
            self.assertEqual(got.exception.most, 4)
        for bottom in range(5, 61):
            with self.assertRaises(TooMany):
                noughts(rate(Fraction(1, bottom)))

    def test_first_fact_of_slopes(self):
        # between two noughts there is one of the slope
        for curve in [SMALL[7], product([less_fraction(1), read_curve("-2 + e^(1)"), T])]:
            between = noughts(slope(curve))
            found = noughts(curve)
            for one, other in zip(found, found[1:]):
                self.assertTrue([m for m in between if compare(one, m) < 0 and compare(m, other) < 0])

    def test_trimmed_has_the_same(self):
        for curve in SMALL[1:8]:
            one, other = noughts(curve), noughts(trimmed(curve))
            self.assertEqual(len(one), len(other))
            self.assertTrue(all(compare(a, b) == 0 for a, b in zip(one, other)))
            self.assertEqual(at_nought(curve)[0] == 0, 0 in [compare(a, at(NIL)) for a in one])


if __name__ == "__main__":
    unittest.main()
