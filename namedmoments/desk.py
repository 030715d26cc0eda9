"""A desk of curves under names [8.1]."""

from namedmoments.checks import check_near, check_some
from namedmoments.curves import Curve, plus, scaled
from namedmoments.errors import BadLine, BadText, NoCurve, NoCurves, NoName, NoSaying, NothingDone, Unknown
from namedmoments.finding import nought_places
from namedmoments.moments import moment_of
from namedmoments.names import is_name
from namedmoments.places import place_at, told_apart
from namedmoments.reading import read_curve
from namedmoments.rows import MOST_CURVES
from namedmoments.sayings import decided, is_saying_over
from namedmoments.texts import curve_text

JOINT = " = "


class Desk:
    """Curves under names, with all that was done with them."""

    def __init__(self):
        self.curves = {}
        self.done = []
        self.undone = []

    def put(self, name, curve):
        """Keep a curve under a name, in the place of an elder one."""
        if not is_name(name):
            raise NoName()
        if not isinstance(curve, Curve):
            raise NoCurve()
        check_some(curve)
        self.do(name, curve)

    def drop(self, name):
        """Keep no curve any more under a name."""
        self.kept(name)
        self.do(name, None)

    def do(self, name, curve):
        """Change what is under a name, in a way that can be taken back; None stands for no curve."""
        self.done.append((name, self.curves.get(name, None), curve))
        self.undone.clear()
        self.set_under(name, curve)

    def set_under(self, name, curve):
        """Change what is under a name."""
        if curve is None:
            del self.curves[name]
        else:
            self.curves[name] = curve

    def undo(self):
        """Take back the last put or drop that is not taken back."""
        if len(self.done) == 0:
            raise NothingDone()
        deed = self.done.pop()
        self.undone.append(deed)
        self.set_under(deed[0], deed[1])

    def redo(self):
        """Do again the last put or drop that was taken back."""
        if len(self.undone) == 0:
            raise NothingDone()
        deed = self.undone.pop()
        self.done.append(deed)
        self.set_under(deed[0], deed[2])

    def names(self):
        """The ascending list of the names."""
        return sorted(list(self.curves))

    def kept(self, name):
        """The curve under a name."""
        if not is_name(name) or name not in self.curves:
            raise Unknown(name)
        return self.curves[name]

    def noughts_of(self, name):
        """At how many moments a curve is nought."""
        return len(nought_places(self.kept(name)))

    def first_from(self, name, number):
        """The Moment of the first nought of a curve from a fraction on, or None."""
        curve = self.kept(name)
        check_near(number)
        start = place_at(number)
        for place in nought_places(curve):
            order, _, _ = told_apart(place, start)
            if order >= 0:
                return moment_of(place)
        return None

    def crossings(self, one, other):
        """The ascending list of Moments at which two curves are worth the same, or None if they are equal."""
        lead = plus(self.kept(one), scaled(self.kept(other), (-1, 1)))
        if len(lead.terms) == 0:
            return None
        return [moment_of(place) for place in nought_places(lead)]

    def tell(self, saying):
        """Whether a saying is so, the names of the curves standing in it for their numbers."""
        names = self.names()
        if len(names) > MOST_CURVES:
            raise NoCurves()
        if not is_saying_over(names, (), saying):
            raise NoSaying()
        return decided([self.curves[name] for name in names], numbered(saying, names))

    def copy(self):
        """Another desk that goes on apart."""
        other = Desk()
        other.curves = dict(self.curves)
        other.done = list(self.done)
        other.undone = list(self.undone)
        return other

    def journal(self):
        """A line for each name and its curve."""
        lines = [f"{name}{JOINT}{curve_text(self.curves[name])}\n" for name in self.names()]
        return "".join(lines)


def numbered(saying, names):
    """A saying with the numbers of names in their place."""
    if saying[0] == "is":
        return ("is", names.index(saying[1]), saying[2], saying[3])
    return tuple([numbered(part, names) if isinstance(part, tuple) else part for part in saying])


def desk_of(text):
    """The desk that a journal tells."""
    if not isinstance(text, str):
        raise BadLine(0)
    lines = text.split("\n")
    desk = Desk()
    elder = ""
    for index, line in enumerate(lines[:-1]):
        name, joint, told = line.partition(JOINT)
        curve = curve_told(told)
        if joint == "" or not is_name(name) or curve is None or name <= elder:
            raise BadLine(index + 1)
        desk.curves[name] = curve
        elder = name
    if lines[-1] != "":
        raise BadLine(len(lines))
    return desk


def curve_told(text):
    """The curve, not nought everywhere, that a text tells, or None."""
    try:
        curve = read_curve(text)
    except BadText:
        return None
    return curve if len(curve.terms) > 0 else None
