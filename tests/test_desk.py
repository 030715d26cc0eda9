"""A desk of curves under names [8.1]."""

import random
import unittest
from fractions import Fraction

from namedmoments.curves import Curve, plus, scaled, times
from namedmoments.desk import Desk, desk_of
from namedmoments.errors import AllNought, BadLine, NoCurve, NoCurves, NoFraction, NoName, NoSaying, NothingDone, TooMany
from namedmoments.errors import Unknown
from namedmoments.moments import Moment, at, compare, fraction_of, sign_then
from namedmoments.noughts import noughts
from namedmoments.reading import read_curve
from namedmoments.texts import curve_text
from tests.helpers import NIL, SMALL, UNIT, check_name, curve_of, deep, less_fraction, no_fractions, odd_things, pair, power
from tests.helpers import product, rate

NOUGHT = Curve(())
T = Curve(((UNIT, 1, NIL),))
LN2 = read_curve("-2 + e^(1)")
TWO = read_curve("-2 - t + e^(1)")
NO_NAMES = ["", "A", "aB", "a1", "a b", " a", "a\n", "abcdefghi", "a_b", "a-b", ("a",), ["a"], b"a", 0, "a" * 2000, "aa ", "0"]


def desk_with(**curves):
    """A desk with curves under names."""
    desk = Desk()
    for name, curve in curves.items():
        desk.put(name, curve)
    return desk


def state(desk):
    """All that a desk tells of what it keeps."""
    return desk.names(), [desk.kept(name) for name in desk.names()], desk.journal()


class Case(unittest.TestCase):

    def refused(self, error, call, *things, **fields):
        with self.assertRaises(error) as got:
            call(*things)
        self.assertIs(got.exception.__class__, error)
        for name, expected in fields.items():
            self.assertEqual(getattr(got.exception, name), expected)


class Keeping(Case):

    def test_put_and_drop(self):
        desk = Desk()
        self.assertEqual((desk.names(), desk.journal()), ([], ""))
        self.assertIsNone(desk.put("b", T))
        self.assertIsNone(desk.put("abcdefgh", LN2))
        self.assertIsNone(desk.put("a", TWO))
        self.assertEqual(desk.names(), ["a", "abcdefgh", "b"])
        self.assertEqual([desk.kept(name) for name in ("a", "abcdefgh", "b")], [TWO, LN2, T])
        desk.put("b", LN2)
        self.assertEqual(desk.kept("b"), LN2)
        self.assertIsNone(desk.drop("abcdefgh"))
        self.assertEqual(desk.names(), ["a", "b"])
        self.refused(Unknown, desk.kept, "abcdefgh", name="abcdefgh")
        one = desk.names()
        one.clear()
        self.assertEqual(desk.names(), ["a", "b"])

    def test_returned_curves(self):
        wide = times(power(T, 6), plus(rate(900), rate(Fraction(1, 60))))
        desk = desk_with(w=wide, x=SMALL[9])
        self.assertEqual(desk.kept("w"), wide)
        self.assertEqual(desk.journal(), f"w = {curve_text(wide)}\nx = {curve_text(SMALL[9])}\n")

    def test_errors_of_put(self):
        desk = desk_with(a=T)
        before = state(desk)
        for name in NO_NAMES + [thing for thing in odd_things() if thing != "x"]:
            for curve in (T, NOUGHT, None):
                self.refused(NoName, desk.put, name, curve)
        for thing in odd_things() + ["t", T.terms, [T], (T,), at(NIL), desk]:
            if thing.__class__ is not Curve:
                self.refused(NoCurve, desk.put, "a", thing)
        self.refused(AllNought, desk.put, "a", NOUGHT)
        self.refused(AllNought, desk.put, "b", plus(T, scaled(T, (-1, 1))))
        self.assertEqual(state(desk), before)

    def test_unknown(self):
        desk = desk_with(a=T, b=LN2)
        before = state(desk)
        for thing in NO_NAMES + odd_things() + ["c", "ab", deep(lambda thing: (thing,)), T]:
            for call in [desk.drop, desk.kept, desk.noughts_of]:
                self.refused(Unknown, call, thing)
            for call in [lambda: desk.first_from(thing, NIL), lambda: desk.first_from(thing, None),
                         lambda: desk.crossings(thing, "a"), lambda: desk.crossings("a", thing),
                         lambda: desk.crossings(thing, None), lambda: desk.drop(thing)]:
                with self.assertRaises(Unknown) as got:
                    call()
                self.assertIs(got.exception.name, thing)
        self.assertEqual(state(desk), before)

    def test_desks_are_not_equal_to_others(self):
        self.assertFalse(Desk() == [])
        self.assertTrue(Desk() != None)  # noqa: E711


class Undoing(Case):

    def test_back_and_forth(self):
        desk = Desk()
        self.refused(NothingDone, desk.undo)
        self.refused(NothingDone, desk.redo)
        states = [state(desk)]
        for deed in [lambda: desk.put("a", T), lambda: desk.put("b", LN2), lambda: desk.put("a", TWO), lambda: desk.drop("b"),
                     lambda: desk.put("a", TWO), lambda: desk.drop("a"), lambda: desk.put("c", T)]:
            deed()
            states.append(state(desk))
        for expected in reversed(states[:-1]):
            self.assertIsNone(desk.undo())
            self.assertEqual(state(desk), expected)
        self.refused(NothingDone, desk.undo)
        for expected in states[1:]:
            self.assertIsNone(desk.redo())
            self.assertEqual(state(desk), expected)
        self.refused(NothingDone, desk.redo)

    def test_a_new_deed_ends_redoing(self):
        for deed in [lambda desk: desk.put("c", T), lambda desk: desk.drop("a"), lambda desk: desk.put("a", T)]:
            desk = desk_with(a=T, b=LN2)
            desk.undo()
            deed(desk)
            self.refused(NothingDone, desk.redo)
            desk.undo()
            self.assertEqual(desk.names(), ["a"])
            desk.redo()

    def test_refused_deeds_change_nothing(self):
        desk = desk_with(a=T, b=LN2)
        desk.undo()
        for error, call, things in [
                (NoName, desk.put, ("A", T)), (NoCurve, desk.put, ("a", None)), (AllNought, desk.put, ("a", NOUGHT)),
                (Unknown, desk.drop, ("b",)), (Unknown, desk.kept, ("b",)), (Unknown, desk.crossings, ("a", "b")),
                (NoFraction, desk.first_from, ("a", None)), (NoSaying, desk.tell, (None,)), (Unknown, desk.noughts_of, (None,))]:
            self.refused(error, call, *things)
            self.assertEqual(desk.names(), ["a"])
            desk.redo()
            self.assertEqual(desk.names(), ["a", "b"])
            self.refused(NothingDone, desk.redo)
            desk.undo()
        desk.undo()
        self.refused(NothingDone, desk.undo)

    def test_long_rows_of_deeds(self):
        chance = random.Random(41)
        for _ in range(20):
            desk = Desk()
            kept, done, undone = {}, [], []
            for _ in range(150):
                kind = chance.random()
                name = chance.choice(["a", "b", "c", "dd"])
                if kind < 0.35:
                    curve = chance.choice(SMALL[1:])
                    desk.put(name, curve)
                    done.append(dict(kept))
                    undone = []
                    kept = {**kept, name: curve}
                elif kind < 0.5:
                    if name in kept:
                        desk.drop(name)
                        done.append(dict(kept))
                        undone = []
                        kept = {other: kept[other] for other in kept if other != name}
                    else:
                        self.refused(Unknown, desk.drop, name, name=name)
                elif kind < 0.75:
                    if done:
                        undone.append(kept)
                        kept = done.pop()
                        desk.undo()
                    else:
                        self.refused(NothingDone, desk.undo)
                elif undone:
                    done.append(kept)
                    kept = undone.pop()
                    desk.redo()
                else:
                    self.refused(NothingDone, desk.redo)
                if chance.random() < 0.1:
                    desk = desk.copy()
                self.assertEqual(desk.names(), sorted(kept))
                self.assertEqual([desk.kept(name) for name in desk.names()], [kept[name] for name in sorted(kept)])


class Copies(Case):

    def test_go_on_apart(self):
        desk = desk_with(a=T, b=LN2)
        desk.put("a", TWO)
        desk.undo()
        other = desk.copy()
        self.assertIs(other.__class__, Desk)
        self.assertEqual(state(other), state(desk))
        other.redo()
        self.assertEqual((other.kept("a"), desk.kept("a")), (TWO, T))
        other.drop("b")
        self.assertEqual((other.names(), desk.names()), (["a"], ["a", "b"]))
        desk.undo()
        desk.undo()
        self.assertEqual((other.names(), desk.names()), (["a"], []))
        self.refused(NothingDone, desk.undo)
        for _ in range(4):
            other.undo()
        self.refused(NothingDone, other.undo)
        desk.redo()
        self.assertEqual((other.names(), desk.names()), ([], ["a"]))
        for _ in range(4):
            other.redo()
        self.assertEqual((other.names(), other.kept("a")), (["a"], TWO))


class Moments(Case):

    def test_noughts_of(self):
        for text, many in [("t", 1), ("1", 0), ("-2 - t + e^(1)", 2), ("-2 + e^(1)", 1), ("t^3 e^(1)", 1), ("-t + t^3", 3)]:
            self.assertEqual(desk_with(a=read_curve(text)).noughts_of("a"), many)
        desk = desk_with(a=read_curve("e^(1/3) + e^(1/2)"))
        self.refused(TooMany, desk.noughts_of, "a", most=4)

    def test_first_from(self):
        curve = times(product([less_fraction(n) for n in (-2, 0, 3)]), TWO)
        desk = desk_with(a=curve, b=read_curve("1"), c=read_curve("-1 - t + e^(1)"))
        found = noughts(curve)
        self.assertEqual(len(found), 5)
        for x in [Fraction(n, 3) for n in range(-9, 15)] + [Fraction(-1000), Fraction(1000), Fraction(3) + Fraction(1, 10 ** 20),
                                                        Fraction(3) - Fraction(1, 10 ** 20)]:
            name = Moment(less_fraction(x), pair(x - 1), pair(x + 1)) if abs(x) < 1000 else None
            behind = [moment for moment in found if compare(moment, name) >= 0] if name else found if x < 0 else []
            first = desk.first_from("a", pair(x))
            if behind:
                check_name(self, first)
                self.assertEqual(compare(first, behind[0]), 0)
            else:
                self.assertIsNone(first)
            self.assertIsNone(desk.first_from("b", pair(x)))
        self.assertEqual(fraction_of(desk.first_from("c", NIL)), NIL)
        self.assertEqual(fraction_of(desk.first_from("c", (-1, 10 ** 29))), NIL)
        self.assertIsNone(desk.first_from("c", (1, 10 ** 29)))

    def test_errors_of_first_from(self):
        desk = desk_with(a=T, b=read_curve("e^(1/3) + e^(1/2)"))
        for thing in no_fractions() + [(1001, 1), (-1001, 1), (10 ** 29, 1), (1000 * 10 ** 26 + 1, 10 ** 26)]:
            self.refused(NoFraction, desk.first_from, "a", thing)
            self.refused(NoFraction, desk.first_from, "b", thing)
            self.refused(Unknown, desk.first_from, "c", thing, name="c")
        self.refused(TooMany, desk.first_from, "b", NIL, most=4)
        self.assertIsNone(desk.first_from("a", (1000, 1)))
        self.assertEqual(fraction_of(desk.first_from("a", (-1000, 1))), NIL)

    def test_crossings(self):
        desk = desk_with(a=read_curve("e^(1)"), b=read_curve("2 + t"), c=read_curve("1 + t"), d=read_curve("e^(1)"),
                         e=read_curve("t^2 + e^(1)"), f=rate(Fraction(1, 3)), g=rate(Fraction(1, 2)),
                         h=plus(T, rate(Fraction(1, 5))), i=rate(Fraction(1, 5)))
        found = desk.crossings("a", "b")
        self.assertIs(found.__class__, list)
        self.assertEqual([compare(*both) for both in zip(found, noughts(TWO))], [0, 0])
        for moment in found:
            check_name(self, moment)
        for one, other, many in [("b", "a", 2), ("a", "c", 1), ("b", "c", 0), ("a", "e", 1), ("h", "i", 1)]:
            self.assertEqual(len(desk.crossings(one, other)), many)
            self.assertEqual(len(desk.crossings(other, one)), many)
        for name in desk.names():
            self.assertIsNone(desk.crossings(name, name))
        self.assertIsNone(desk.crossings("a", "d"))
        self.refused(TooMany, desk.crossings, "f", "g", most=4)
        self.refused(TooMany, desk.crossings, "i", "a", most=4)
        self.refused(Unknown, desk.crossings, "x", "y", name="x")
        self.refused(Unknown, desk.crossings, "a", "y", name="y")
        self.assertIsNot(desk.crossings("a", "b"), desk.crossings("a", "b"))


class Telling(Case):

    def test_with_names(self):
        desk = desk_with(line=T, ln=LN2, two=TWO)
        some = ("some", "x", ("and", ("is", "line", "x", 1), ("is", "two", "x", 0)))
        self.assertIs(desk.tell(some), True)
        self.assertIs(desk.tell(("not", some)), False)
        self.assertIs(desk.tell(("all", "x", ("or", ("not", ("is", "ln", "x", 0)), ("and", ("is", "line", "x", 1),
                                                                                  ("is", "two", "x", -1))))), True)
        desk.put("two", T)
        self.assertIs(desk.tell(some), False)
        desk.undo()
        desk.put("aaa", read_curve("-1"))
        self.assertIs(desk.tell(some), True)
        self.assertIs(desk.tell(("some", "line", ("is", "line", "line", 0))), True)
        self.assertIs(Desk().tell(("all", "x", ("some", "y", ("ahead", "x", "y")))), True)

    def test_no_saying(self):
        desk = desk_with(a=T, b=LN2)
        for thing in [("some", "x", ("is", "c", "x", 0)), ("some", "x", ("is", 0, "x", 0)), ("is", "a", "x", 0), ("a", "x", "y"),
                      ("some", "x", ("is", ("a",), "x", 0)), ("some", "x", ("is", None, "x", 0)), ("some", "x", ("is", b"a", "x", 0)),
                      ("some", "x", ("is", "A", "x", 0)), ("all", "x", ("and", ("is", "a", "x", 0), ("is", "d", "x", 0))),
                      ("some", "x", ("is", True, "x", 0)), ("some", "x", ("is", "a", "x", True)), ("some", "x", ["is", "a", "x", 0])]:
            self.refused(NoSaying, desk.tell, thing)
        for thing in odd_things():
            self.refused(NoSaying, desk.tell, thing)
            self.refused(NoSaying, Desk().tell, thing)
        self.refused(NoSaying, desk_with(a=rate(Fraction(1, 5))).tell, None)

    def test_no_curves_and_too_many(self):
        desk = desk_with(a=T, b=T, c=T, d=T, e=T)
        order = ("all", "x", ("same", "x", "x"))
        self.assertIs(desk.tell(order), True)
        desk.put("f", T)
        for thing in (order, None):
            self.refused(NoCurves, desk.tell, thing)
        desk.undo()
        self.assertIs(desk.tell(order), True)
        desk.put("e", read_curve("e^(1/3) + e^(1/2)"))
        self.refused(TooMany, desk.tell, order, most=4)
        desk.put("e", rate(Fraction(1, 3)))
        self.assertIs(desk.tell(order), True)
        desk.put("a", rate(Fraction(1, 2)))
        self.refused(TooMany, desk.tell, order, most=4)


class Journals(Case):

    def test_there_and_back(self):
        desk = Desk()
        self.assertEqual(desk_of("").journal(), "")
        for name, curve in zip(["z", "a", "abc", "abcdefgh", "b", "ab", "zz", "y", "x"], SMALL[1:]):
            desk.put(name, curve)
            back = desk_of(desk.journal())
            self.assertIs(back.__class__, Desk)
            self.assertEqual(state(back), state(desk))
            self.refused(NothingDone, back.undo)
            self.refused(NothingDone, back.redo)
            back.put("q", T)
            back.undo()
            self.assertEqual(state(back), state(desk))
            self.refused(NothingDone, back.undo)
        self.assertEqual(desk_with(b=TWO, a=T).journal(), "a = t\nb = -2 - t + e^(1)\n")

    def test_bad_lines(self):
        for line in ["", " ", "a", "a =", "a = ", "a=t", "a= t", "a =t", " a = t", "a  = t", "a = t ", "a =  t", "A = t", "a1 = t",
                     "abcdefghi = t", " = t", "a = 0", "a = u", "a = t + t", "a = 1 + 0", "a = 2 t^4", "a = -0", "= t", "t",
                     "a = t = t", "a = = t", "a = b = t", "a = e^(5)", "a = 1/2/3", "a == t", "b = 1 t"]:
            for ahead, behind in [([], []), ([], ["b = t"]), ([], ["bad"])]:
                text = "".join([part + "\n" for part in ahead + [line] + behind])
                self.refused(BadLine, desk_of, text, number=1)
            for ahead in (["aa = t"], ["aa = t", "ab = 1"]):
                later = line.replace("a =", "b =", 1) if line.startswith("a =") else line
                text = "".join([part + "\n" for part in ahead + [later, "zz = t"]])
                self.refused(BadLine, desk_of, text, number=len(ahead) + 1)

    def test_names_that_do_not_ascend(self):
        for one, other in [("a", "a"), ("b", "a"), ("ab", "a"), ("b", "ab"), ("z", "aaaaaaaa")]:
            self.refused(BadLine, desk_of, f"{one} = t\n{other} = t\n", number=2)
            self.refused(BadLine, desk_of, f"a = 1\n{one}z = t\n{other} = t\n", number=3)
        self.assertEqual(desk_of("a = t\naa = t\nab = t\nb = t\n").names(), ["a", "aa", "ab", "b"])

    def test_line_feeds(self):
        for text, number in [("a = t", 1), ("\n", 1), ("a = t\nb = t", 2), ("a = t\n\n", 2), ("a = t\n\nb = t\n", 2), ("\na = t\n", 1),
                             ("a = t\nb = t\n\n", 3), ("a = t\n ", 2), ("a = u\nb = t", 1), ("a = t\nb = u\nc = t", 2), (" ", 1),
                             ("a = t\nb = t\nc", 3), ("a = t\n\n\n", 2)]:
            self.refused(BadLine, desk_of, text, number=number)

    def test_no_string(self):
        for thing in odd_things() + [0, 1, ["a = t\n"], ("a = t\n",), b"a = t\n", T, Desk(), {"a": T}]:
            if not isinstance(thing, str):
                self.refused(BadLine, desk_of, thing, number=0)
        for thing in ["x" * 2000, "1", "1/2"]:
            self.refused(BadLine, desk_of, thing, number=1)

    def test_of_curves_that_are_not_read_back(self):
        desk = desk_with(a=T, b=times(power(T, 2), T))
        self.assertEqual(desk.journal(), "a = t\nb = t^5\n")
        self.refused(BadLine, desk_of, desk.journal(), number=2)

    def test_answers(self):
        desk = desk_with(a=curve_of({(1, 1): 1, (0, 0): -1}))
        self.assertEqual(sign_then(desk.kept("a"), desk.first_from("a", NIL)), 0)
        self.assertEqual(desk.noughts_of("a").__class__, int)
        one, other = desk.first_from("a", NIL), desk.first_from("a", NIL)
        self.assertEqual(one, other)


if __name__ == "__main__":
    unittest.main()
