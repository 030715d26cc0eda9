"""What is a saying, and whether it is so [6.1] [6.2]."""

import random
import unittest
from fractions import Fraction
from itertools import product as tuples

from namedmoments.curves import Curve, scaled, slope
from namedmoments.errors import NoCurves, NoLetter, NoLetters, NoNumber, NoSaying, TooMany
from namedmoments.moments import at
from namedmoments.reading import read_curve
from namedmoments.rows import Row
from namedmoments.sayings import decided, is_saying, when
from tests.helpers import NIL, UNIT, deep, less_fraction, no_numbers, odd_things, pair, product, rate

NOUGHT = Curve(())
T = Curve(((UNIT, 1, NIL),))
LN2 = read_curve("-2 + e^(1)")
TWO = read_curve("-2 - t + e^(1)")
IS = ("is", 0, "x", 0)
AHEAD = ("ahead", "x", "y")
FORMS = [
    ("is", 0, "x", 0), ("is", 4, "x", -1), ("is", 2, "y", 1), ("ahead", "x", "y"), ("ahead", "x", "x"), ("same", "y", "x"),
    ("not", IS), ("not", ("not", AHEAD)), ("and", IS, AHEAD), ("or", AHEAD, ("same", "x", "x")), ("all", "x", IS),
    ("some", "y", AHEAD), ("all", "x", ("some", "y", AHEAD)), ("some", "z", IS), ("all", "abcdefgh", IS),
    ("and", ("all", "x", IS), ("is", 1, "x", 1)), ("all", "x", ("some", "x", IS)), ("some", "x", ("and", IS, ("all", "x", IS))),
]
NO_FORMS = [
    (), ("is",), ("is", 0, "x"), ("is", 0, "x", 0, 0), ("is", 0, "x", 2), ("is", 0, "x", -2), ("is", 0, "x", True),
    ("is", 0, "x", False), ("is", 0, "x", None), ("is", 0, "x", "0"), ("is", 0, "x", (0,)), ("is", 5, "x", 0),
    ("is", -1, "x", 0), ("is", True, "x", 0), ("is", False, "x", 0), ("is", "0", "x", 0), ("is", "x", "x", 0),
    ("is", None, "x", 0), ("is", 0, 0, 0), ("is", 0, "X", 0), ("is", 0, "", 0), ("is", 0, ("x",), 0), ("is", 0, ["x"], 0),
    ("is", 0, "xyzxyzxyz", 0), ("is", 0, "z", 0), ("is", 10 ** 29, "x", 0), ["is", 0, "x", 0], ("is", [0], "x", 0),
    ("ahead", "x"), ("ahead", "x", "y", "x"), ("ahead", "x", "z"), ("ahead", "z", "x"), ("ahead", 0, "x"), ["ahead", "x", "y"],
    ("same", "x"), ("same", "x", "z"), ("same", "x", None), ("same", ("x",), "y"), ("behind", "x", "y"), ("Ahead", "x", "y"),
    ("not",), ("not", IS, IS), ("not", "x"), ("not", None), ("not", ()), ("not", list(IS)), ("not", True), ("nor", IS),
    ("and", IS), ("and", IS, IS, IS), ("and", IS, None), ("and", None, IS), ("and", (), IS), ("and", "x", IS), ("And", IS, IS),
    ("or", IS), ("or", IS, IS, IS), ("or", IS, list(IS)), ("or", IS, ("is", 0, "z", 0)), ["or", IS, IS], ("xor", IS, IS),
    ("all", IS), ("all", "x"), ("all", "x", IS, IS), ("all", "X", IS), ("all", "", IS), ("all", 0, IS), ("all", ("x",), IS),
    ("all", "abcdefghi", IS), ("all", "x", None), ("all", "x1", IS), ("all", None, IS), ["all", "x", IS], ("every", "x", IS),
    ("some", "y", ("is", 0, "z", 0)), ("some", "x"), ("some", "x", "x"), ("some", "x", IS, "y"), ("some", "a b", IS),
    (b"is", 0, "x", 0), ("is", 0, b"x", 0), (None, IS), (0, IS), (("is",), 0, "x", 0), ("is 0", "x", 0), ("is", 0, "x\n", 0),
    ("and", ("some", "z", IS), ("is", 0, "z", 0)), ("all", "x", ("and", IS, ("is", 0, "z", 0))),
]


def deep_one(inner, many):
    """A saying with so many not around it."""
    for _ in range(many):
        inner = ("not", inner)
    return inner


def meant(words):
    """A saying that begins with all and some, as these words tell."""
    saying = IS
    for word in words:
        saying = (word, "x", saying)
    return saying


class IsSaying(unittest.TestCase):

    def test_right_forms(self):
        for thing in FORMS:
            self.assertIs(is_saying(5, ("x", "y"), thing), True, thing)
            self.assertIs(is_saying(5, ("y", "a", "x"), thing), True)

    def test_wrong_forms(self):
        for thing in NO_FORMS + odd_things() + [Row([T]), at(NIL), "is", 5, -1, (1, 2), [IS], (IS,), (IS, IS)]:
            self.assertIs(is_saying(5, ("x", "y"), thing), False, repr(thing)[:100])
            for around in [("not", thing), ("and", IS, thing), ("or", thing, AHEAD), ("all", "x", thing), ("some", "y", thing)]:
                self.assertIs(is_saying(5, ("x", "y"), around), False)

    def test_one_thing_otherwise(self):
        for saying in FORMS:
            for index in range(len(saying)):
                for other in [None, True, -2, 5, [], (), "", "zz", ["x"], IS[:3], list(IS), b"x", T]:
                    if other != saying[index]:
                        changed = saying[:index] + (other,) + saying[index + 1:]
                        if index == 1 and other == "zz" and saying[0] in ("all", "some"):
                            continue
                        self.assertIs(is_saying(5, ("x", "y"), changed), False, changed)
            self.assertIs(is_saying(5, ("x", "y"), list(saying)), False)
            self.assertIs(is_saying(5, ("x", "y"), saying + (IS,)), False)
            self.assertIs(is_saying(5, ("x", "y"), saying[:-1]), False)

    def test_numbers_of_curves(self):
        for many in range(6):
            for index in range(-1, 7):
                self.assertIs(is_saying(many, ("x",), ("is", index, "x", 0)), 0 <= index < many)
                self.assertIs(is_saying(many, (), ("all", "x", ("is", index, "x", 0))), 0 <= index < many)
            self.assertIs(is_saying(many, ("x", "y"), AHEAD), True)

    def test_depth(self):
        for inner in (IS, AHEAD, ("same", "x", "x")):
            for many in range(12):
                self.assertIs(is_saying(1, ("x", "y"), deep_one(inner, many)), many <= 7)
        wide = IS
        for many in range(9):
            self.assertIs(is_saying(1, ("x",), wide), many <= 7)
            wide = ("and", wide, wide)
        self.assertIs(is_saying(1, (), deep_one(("all", "x", IS), 6)), True)
        self.assertIs(is_saying(1, (), deep_one(("all", "x", IS), 7)), False)
        for thing in [deep(lambda thing: ("not", thing)), deep(lambda thing: ("and", IS, thing)),
                      deep(lambda thing: ("all", "x", thing)), ("not",) * 50000]:
            self.assertIs(is_saying(1, ("x",), thing), False)

    def test_how_many_all_and_some(self):
        for many in range(8):
            for words in tuples(("all", "some"), repeat=min(many, 5)):
                self.assertIs(is_saying(1, (), meant(words + ("all",) * (many - 5))), 1 <= many <= 4)
        two = meant(("all", "some"))
        self.assertIs(is_saying(1, (), ("and", two, two)), True)
        self.assertIs(is_saying(1, (), ("or", two, ("not", two))), True)
        self.assertIs(is_saying(1, (), ("and", two, meant(("all", "all", "all")))), False)
        self.assertIs(is_saying(1, (), ("and", two, ("and", two, ("all", "x", IS)))), False)
        self.assertIs(is_saying(1, (), ("all", "x", ("and", two, two))), False)

    def test_open_letters(self):
        self.assertIs(is_saying(1, (), IS), False)
        self.assertIs(is_saying(1, ("y",), IS), False)
        self.assertIs(is_saying(1, ("x",), AHEAD), False)
        self.assertIs(is_saying(1, (), ("all", "x", AHEAD)), False)
        self.assertIs(is_saying(1, ("y",), ("all", "x", AHEAD)), True)
        self.assertIs(is_saying(1, (), ("and", ("all", "x", IS), IS)), False)
        self.assertIs(is_saying(1, ("x",), ("and", ("all", "x", IS), IS)), True)
        self.assertIs(is_saying(1, tuple("abcdefghijkl"), ("all", "x", IS)), True)
        self.assertIs(is_saying(1, ("abcdefgh",), ("is", 0, "abcdefgh", 1)), True)

    def test_errors(self):
        for thing in no_numbers(5):
            with self.assertRaises(NoNumber):
                is_saying(thing, ("x",), IS)
            with self.assertRaises(NoNumber):
                is_saying(thing, None, None)
        wrong = odd_things() + ["x", ["x"], ("x", "x"), ("x", "y", "x"), ("X",), ("",), ("abcdefghi",), ("x", None), ("x", 1),
                                (("x",),), ("x", True), (b"x",), {"x": 1}, ("x\n",), ("x", "")]
        for thing in wrong:
            if thing != ():
                for saying in (IS, None):
                    with self.assertRaises(NoLetters):
                        is_saying(1, thing, saying)
        self.assertIs(is_saying(0, (), IS), False)


class Case(unittest.TestCase):

    def so(self, curves, saying, expected=True):
        for given in (list(curves), tuple(curves)):
            self.assertIs(decided(given, saying), expected, saying)
            if is_saying(len(given), (), ("not", saying)):
                self.assertIs(decided(given, ("not", saying)), not expected, saying)


class Order(Case):

    def test_without_curves(self):
        x_y, y_x, same = ("ahead", "x", "y"), ("ahead", "y", "x"), ("same", "x", "y")
        for saying, expected in [
                (("all", "x", ("same", "x", "x")), True), (("some", "x", ("ahead", "x", "x")), False),
                (("all", "x", ("some", "y", x_y)), True), (("all", "x", ("some", "y", y_x)), True),
                (("some", "x", ("all", "y", x_y)), False), (("some", "x", ("all", "y", ("not", y_x))), False),
                (("some", "x", ("all", "y", ("or", x_y, same))), False), (("all", "x", ("some", "y", same)), True),
                (("all", "x", ("all", "y", ("or", x_y, ("or", y_x, same)))), True), (("some", "x", ("some", "y", x_y)), True),
                (("all", "x", ("all", "y", same)), False), (("all", "x", ("all", "y", ("not", ("and", x_y, y_x)))), True),
                (("all", "x", ("all", "y", ("or", ("not", x_y), ("some", "z", ("and", ("ahead", "x", "z"),
                                                                               ("ahead", "z", "y")))))), True),
                (("some", "x", ("some", "y", ("and", x_y, ("all", "z", ("or", ("not", ("ahead", "x", "z")), ("not", (
                    "ahead", "z", "y"))))))), False),
                (("some", "w", ("some", "x", ("some", "y", ("some", "z", ("and", ("ahead", "w", "x"), ("and", x_y, (
                    "ahead", "y", "z"))))))), True),
                (("all", "w", ("all", "x", ("all", "y", ("all", "z", ("or", ("not", ("and", ("ahead", "w", "x"), x_y)),
                                                                      ("or", ("ahead", "w", "y"), x_y)))))), True)]:
            self.so((), saying, expected)
            self.so((T,), saying, expected)
            self.so((LN2, TWO, read_curve("1")), saying, expected)

    def test_letters_called_otherwise(self):
        for letters in [("x", "y"), ("y", "x"), ("a", "abcdefgh"), ("some", "all"), ("is", "not")]:
            one, other = letters
            self.so((), ("all", one, ("some", other, ("ahead", one, other))))
            self.so((), ("some", one, ("all", other, ("ahead", one, other))), False)
            self.so((T,), ("some", one, ("and", ("is", 0, one, 0), ("all", other, ("or", ("is", 0, other, 1), (
                "not", ("ahead", one, other)))))))

    def test_meant_anew_within(self):
        inner = ("some", "x", ("is", 0, "x", 1))
        self.so((T,), ("some", "x", ("and", ("is", 0, "x", -1), inner)))
        self.so((T,), ("some", "x", ("and", inner, ("is", 0, "x", -1))))
        self.so((T,), ("all", "x", inner))
        self.so((T,), ("all", "x", ("some", "y", ("and", AHEAD, ("some", "x", ("and", ("ahead", "y", "x"), ("is", 0, "x", 1)))))))
        self.so((T,), ("some", "x", ("and", ("is", 0, "x", 0), ("some", "x", ("is", 0, "x", 0)))))
        self.so((T,), ("some", "x", ("some", "x", ("and", ("is", 0, "x", 0), ("is", 0, "x", 1)))), False)


class Within(Case):

    def test_each_part_is_told_by_itself(self):
        so, not_so = ("some", "x", ("same", "x", "x")), ("all", "x", ("ahead", "x", "x"))
        for parts in tuples((so, not_so), repeat=4):
            worths = [part == so for part in parts]
            for words in tuples(("and", "or"), repeat=3):
                pair_of = [(words[1], parts[0], parts[1]), (words[2], ("not", parts[2]), ("not", ("not", parts[3])))]
                both = [worths[0] and worths[1], not worths[2] and worths[3]]
                either = [worths[0] or worths[1], not worths[2] or worths[3]]
                told = [either[n] if words[n + 1] == "or" else both[n] for n in range(2)]
                expected = any(told) if words[0] == "or" else all(told)
                self.so((), (words[0], *pair_of), expected)
                self.so((), (words[0], *reversed(pair_of)), expected)

    def test_within_all_and_some(self):
        so, not_so = ("some", "x", ("same", "x", "x")), ("all", "x", ("ahead", "x", "x"))
        for parts in tuples((so, not_so), repeat=3):
            worths = [part == so for part in parts]
            for word in ("all", "some"):
                self.so((), ("and", ("or", parts[0], parts[1]), (word, "y", parts[2])), (worths[0] or worths[1]) and worths[2])
                for inner in [("and", parts[0], (word, "y", parts[1])), ("and", (word, "y", parts[1]), parts[0])]:
                    self.so((), ("or", inner, parts[2]), worths[0] and worths[1] or worths[2])
                    self.so((), ("or", parts[2], inner), worths[0] and worths[1] or worths[2])
                    self.so((), inner, worths[0] and worths[1])


class Signs(Case):

    def test_one_curve(self):
        for curve, nought, above, below in [
                (T, True, True, True), (read_curve("1 + t^2"), False, True, False), (read_curve("-3 e^(1)"), False, False, True),
                (read_curve("t^2"), True, True, False), (read_curve("-1 - t + e^(1)"), True, True, False), (TWO, True, True, True)]:
            for sign, expected in [(0, nought), (1, above), (-1, below)]:
                self.so((curve,), ("some", "x", ("is", 0, "x", sign)), expected)
                self.so((curve,), ("all", "x", ("not", ("is", 0, "x", sign))), not expected)
                self.so((T, scaled(curve, (-2, 1))), ("some", "x", ("is", 1, "x", -sign)), expected)

    def test_how_many_noughts(self):
        for many in range(4):
            curve = product([less_fraction(n) for n in range(many)])
            one, other = ("is", 0, "x", 0), ("is", 0, "y", 0)
            self.so((curve,), ("some", "x", one), many >= 1)
            self.so((curve,), ("some", "x", ("and", one, ("some", "y", ("and", other, AHEAD)))), many >= 2)
            self.so((curve,), ("some", "x", ("some", "y", ("some", "z", ("and", ("and", one, other), ("and", (
                "is", 0, "z", 0), ("and", AHEAD, ("ahead", "y", "z"))))))), many >= 3)
            self.so((curve,), ("all", "x", ("all", "y", ("or", ("not", ("and", one, other)), ("same", "x", "y")))), many <= 1)

    def test_several_curves(self):
        curves = (LN2, less_fraction(Fraction(1, 2)), slope(TWO), read_curve("-4 + e^(2)"), T)
        at_once = ("and", ("is", 0, "x", 0), ("is", 3, "x", 0))
        self.so(curves, ("some", "x", at_once))
        self.so(curves, ("all", "x", ("or", at_once, ("not", ("is", 0, "x", 0)))))
        self.so(curves, ("all", "x", ("or", ("is", 4, "x", 0), ("not", ("is", 2, "x", 0)))))
        self.so(curves, ("some", "x", ("and", ("is", 0, "x", 0), ("is", 1, "x", 0))), False)
        self.so(curves, ("some", "x", ("and", ("is", 0, "x", 0), ("some", "y", ("and", ("is", 1, "y", 0), AHEAD)))), False)
        self.so(curves, ("some", "x", ("and", ("is", 1, "x", 0), ("some", "y", ("and", ("is", 0, "y", 0), AHEAD)))))
        self.so(curves, ("all", "x", ("or", ("not", ("is", 4, "x", 1)), ("is", 2, "x", 1))))
        self.so(curves, ("all", "x", ("or", ("not", ("is", 2, "x", 1)), ("is", 0, "x", 1))), False)

    def test_all_four(self):
        curve = product([less_fraction(n) for n in (1, 2, 3)])
        signs = [("is", 0, letter, sign) for letter, sign in zip("wxyz", (-1, 1, -1, 1))]
        rising = ("and", ("and", ("ahead", "w", "x"), ("ahead", "x", "y")), ("ahead", "y", "z"))
        whole = ("and", ("and", ("and", signs[0], signs[1]), ("and", signs[2], signs[3])), rising)
        self.so((curve,), ("some", "w", ("some", "x", ("some", "y", ("some", "z", whole)))))
        self.so((scaled(curve, (-1, 1)),), ("some", "w", ("some", "x", ("some", "y", ("some", "z", whole)))), False)

    def test_close_noughts(self):
        gap = Fraction(1, 10 ** 20)
        curves = (less_fraction(Fraction(1, 3)), less_fraction(Fraction(1, 3) + gap))
        between = ("some", "x", ("and", ("is", 0, "x", 1), ("is", 1, "x", -1)))
        self.so(curves, between)
        self.so((curves[1], curves[0]), between, False)


class ByPoints(Case):

    def holds(self, saying, curves, places):
        """Whether a saying is so, the curves being nought at 0, 1 and 2 at most, and each letter a Fraction."""
        word = saying[0]
        if word == "is":
            return self.sign(curves[saying[1]], places[saying[2]]) == saying[3]
        if word in ("ahead", "same"):
            one, other = places[saying[1]], places[saying[2]]
            return one < other if word == "ahead" else one == other
        if word == "not":
            return not self.holds(saying[1], curves, places)
        if word in ("and", "or"):
            both = [self.holds(part, curves, places) for part in saying[1:]]
            return all(both) if word == "and" else any(both)
        # between what is there already, each point is as good as all others
        known = sorted({Fraction(0), Fraction(1), Fraction(2), *places.values()})
        points = known + [(one + other) / 2 for one, other in zip(known, known[1:])] + [known[0] - 1, known[-1] + 1]
        found = (self.holds(saying[2], curves, {**places, saying[1]: point}) for point in points)
        return all(found) if word == "all" else any(found)

    def sign(self, roots, place):
        """The sign of the product of t less each root."""
        worth = 1
        for root in roots:
            worth *= place - root
        return (worth > 0) - (worth < 0)

    def some_roots(self, chance, least):
        """The roots of some curves, and these curves."""
        roots = [[chance.randint(0, 2) for _ in range(chance.randint(1, 2))] for _ in range(chance.randint(least, 3))]
        return roots, [product([less_fraction(root) for root in some]) for some in roots]

    def saying(self, chance, many, letters, meant_left, deep_left):
        kind = chance.random()
        if deep_left == 1 or (kind < 0.2 and letters and not meant_left):
            if many and chance.random() < 0.6:
                return ("is", chance.randrange(many), chance.choice(letters), chance.choice([-1, 0, 1]))
            return (chance.choice(["ahead", "same"]), chance.choice(letters), chance.choice(letters))
        if meant_left and (not letters or kind < 0.7):
            letter = chance.choice("xyz")
            inner = self.saying(chance, many, letters + [letter], meant_left - 1, deep_left - 1)
            return (chance.choice(["all", "some"]), letter, inner)
        if kind < 0.8:
            return ("not", self.saying(chance, many, letters, meant_left, deep_left - 1))
        first = self.saying(chance, many, letters, meant_left // 2, deep_left - 1)
        return (chance.choice(["and", "or"]), first, self.saying(chance, many, letters, meant_left - meant_left // 2, deep_left - 1))

    def test_by_chance(self):
        chance = random.Random(21)
        for _ in range(300):
            roots, curves = self.some_roots(chance, 0)
            saying = self.saying(chance, len(curves), [], chance.choice([1, 2, 2, 3, 4]), 8)
            self.assertTrue(is_saying(len(curves), (), saying))
            self.so(curves, saying, self.holds(saying, roots, {}))

    def test_when_by_chance(self):
        chance = random.Random(22)
        for _ in range(60):
            roots, curves = self.some_roots(chance, 1)
            saying = self.saying(chance, len(curves), ["w"], chance.choice([0, 1, 2, 3]), 7)
            row = Row(curves)
            expected = {row.cell_of(at(pair(point))) for point in [Fraction(n, 4) for n in range(-4, 13)]
                        if self.holds(saying, roots, {"w": point})}
            self.assertEqual(when(curves, saying, "w"), sorted(expected))


class When(Case):

    def test_cell_by_cell(self):
        for curves in [(T,), (TWO,), (LN2, T, less_fraction(Fraction(1, 3))), (read_curve("1"),), (TWO, slope(TWO), T, T, LN2)]:
            row = Row(curves)
            cells = range(2 * len(row.moments()) + 1)
            for index in range(len(curves)):
                for sign in (-1, 0, 1):
                    expected = [cell for cell in cells if row.signs(cell)[index] == sign]
                    for letter in ("x", "abcdefgh"):
                        self.assertEqual(when(curves, ("is", index, letter, sign), letter), expected)
                        self.assertEqual(when(list(curves), ("not", ("not", ("is", index, letter, sign))), letter), expected)
                    self.so(curves, ("some", "x", ("is", index, "x", sign)), expected != [])
                    self.so(curves, ("all", "x", ("is", index, "x", sign)), expected == list(cells))

    def test_with_other_letters(self):
        behind_all = ("all", "y", ("or", ("not", ("is", 0, "y", 0)), ("ahead", "y", "x")))
        self.assertEqual(when((TWO,), behind_all, "x"), [4])
        self.assertEqual(when((TWO, T), behind_all, "x"), [6])
        between = ("and", ("some", "y", ("and", ("is", 0, "y", 0), ("ahead", "y", "x"))),
                   ("some", "y", ("and", ("is", 0, "y", 0), ("ahead", "x", "y"))))
        self.assertEqual(when((TWO,), between, "x"), [2])
        self.assertEqual(when((TWO, T), between, "x"), [2, 3, 4])
        self.assertEqual(when((TWO,), ("all", "x", ("is", 0, "x", 0)), "x"), [])
        self.assertEqual(when((TWO,), ("some", "x", ("is", 0, "x", 0)), "x"), [0, 1, 2, 3, 4])
        self.assertEqual(when((TWO,), ("some", "y", ("is", 0, "y", 0)), "x"), [0, 1, 2, 3, 4])
        self.assertEqual(when((T,), ("some", "y", ("and", ("same", "x", "y"), ("is", 0, "y", 0))), "x"), [1])
        self.assertEqual(when((T,), ("and", ("is", 0, "x", 1), ("some", "x", ("is", 0, "x", -1))), "x"), [2])
        self.assertEqual(when((T, LN2), ("some", "y", ("and", ("is", 0, "y", 1), ("ahead", "y", "x"))), "x"), [2, 3, 4])

    def test_lists_are_new(self):
        one = when((TWO,), ("is", 0, "x", 1), "x")
        self.assertIs(one.__class__, list)
        one.clear()
        self.assertEqual(when((TWO,), ("is", 0, "x", 1), "x"), [0, 4])

    def test_no_letter(self):
        for thing in odd_things() + ["X", "", "abcdefghi", "x1", ("x",), ["x"], b"x", "x ", 0]:
            for saying in (IS, None):
                with self.assertRaises(NoLetter):
                    when((T,), saying, thing)


class Errors(Case):

    def test_no_curves(self):
        wrong = [thing for thing in odd_things() if thing != []] + [
            [T] * 6, (T,) * 6, [T, None], [NOUGHT], (T, NOUGHT), T, [[T]], {0: T}, (1,), [T.terms], [T] * 99999, iter([T])]
        for thing in wrong:
            for saying, letter in [(("all", "x", ("same", "x", "x")), "x"), (None, None)]:
                with self.assertRaises(NoCurves):
                    decided(thing, saying)
                with self.assertRaises(NoCurves):
                    when(thing, saying, letter)
        for thing in ([], ()):
            with self.assertRaises(NoCurves):
                when(thing, ("is", 0, "x", 0), "x")
            self.assertIs(decided(thing, ("all", "x", ("same", "x", "x"))), True)
        with self.assertRaises(NoCurves):
            decided([rate(Fraction(1, 5)), NOUGHT], None)

    def test_no_saying(self):
        for thing in NO_FORMS + odd_things() + [IS, AHEAD, ("some", "x", AHEAD), deep_one(("all", "x", IS), 7),
                                                meant(("all",) * 5), ("all", "x", ("is", 2, "x", 0))]:
            for curves in ((T, LN2), [rate(Fraction(1, 5)), T]):
                with self.assertRaises(NoSaying):
                    decided(curves, thing)
                if thing != IS:
                    with self.assertRaises(NoSaying):
                        when(curves, thing, "x")
        with self.assertRaises(NoSaying):
            decided((), ("all", "x", ("is", 0, "x", 0)))
        with self.assertRaises(NoSaying):
            when((T,), IS, "y")
        with self.assertRaises(NoSaying):
            when((T,), ("all", "y", AHEAD), "y")

    def test_too_many(self):
        order = ("all", "x", ("same", "x", "x"))
        for curves in [[rate(Fraction(1, 5))], (T, rate(Fraction(1, 2)), rate(Fraction(1, 3))),
                       [T, read_curve("e^(1/4) + e^(1/3)")]]:
            for call in [lambda: decided(curves, order), lambda: when(curves, ("is", 0, "x", 0), "x"),
                         lambda: decided(curves, ("some", "x", IS)), lambda: when(curves, order, "y")]:
                with self.assertRaises(TooMany) as got:
                    call()
                self.assertEqual(got.exception.most, 4)

    def test_nothing_is_changed(self):
        curves = [TWO, T]
        saying = ("some", "x", ("and", IS, ("all", "x", ("not", ("is", 1, "x", 0)))))
        self.assertEqual(decided(curves, saying), decided(curves, saying))
        self.assertEqual(curves, [TWO, T])
        self.assertEqual(saying, ("some", "x", ("and", IS, ("all", "x", ("not", ("is", 1, "x", 0))))))


if __name__ == "__main__":
    unittest.main()
