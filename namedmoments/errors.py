"""The errors of the package [0.3]."""


class CurveError(ValueError):
    """What all errors of the package derive from."""


class BadCurve(CurveError):
    """The terms of a curve are none: index is that of the first wrong one, or -1."""

    def __init__(self, index):
        super().__init__("these are no terms of a curve")
        self.index = index


class BadText(CurveError):
    """A text tells no curve: index is that of the first wrong piece, or -1."""

    def __init__(self, index):
        super().__init__("this is no text of a curve")
        self.index = index


class BadMoment(CurveError):
    """What should name a moment does not: part tells what of it is wrong."""

    def __init__(self, part):
        super().__init__("this names no moment")
        self.part = part


class BadFlow(CurveError):
    """What should make a flow does not: part tells what of it is wrong."""

    def __init__(self, part):
        super().__init__("this makes no flow")
        self.part = part


class BadLine(CurveError):
    """A journal tells no desk: number is that of the first wrong line, or 0."""

    def __init__(self, number):
        super().__init__("this is no journal of a desk")
        self.number = number


class TooMany(CurveError):
    """The bottoms have a least common multiple above most."""

    def __init__(self, most):
        super().__init__("the least common multiple of the bottoms is too great")
        self.most = most


class Unknown(CurveError):
    """There is no curve under the name."""

    def __init__(self, name):
        super().__init__("there is no curve under this name")
        self.name = name


class AllNought(CurveError):
    """A curve is nought everywhere where it must not be."""


class NoFraction(CurveError):
    """A thing is no fraction that may stand here."""


class NoNumber(CurveError):
    """A thing is no integer that may stand here."""


class NoSide(CurveError):
    """A thing is no side."""


class NoCurves(CurveError):
    """A thing is no tuple or list of curves that may stand here."""


class NoCell(CurveError):
    """A thing is no number of a cell."""


class NoLetters(CurveError):
    """A thing is no tuple of unlike names."""


class NoLetter(CurveError):
    """A thing is no letter."""


class NoSaying(CurveError):
    """A thing is no saying that may stand here."""


class NoVessel(CurveError):
    """A thing is no number of a vessel."""


class NoPipe(CurveError):
    """A thing is no number of a pipe."""


class NoName(CurveError):
    """A thing is no name."""


class NoCurve(CurveError):
    """A thing is no curve."""


class NothingDone(CurveError):
    """There is nothing to take back or to do again."""
