"""The text of a curve [1.3]."""

from namedmoments.figures import figures
from namedmoments.ratios import UNIT


def curve_text(curve):
    """The text of a curve, its terms in order."""
    if len(curve.terms) == 0:
        return "0"
    texts = []
    for index, term in enumerate(curve.terms):
        texts.append(ahead_of(index, term[0]) + term_text(term))
    return "".join(texts)


def ahead_of(index, c):
    """What stands ahead of the size of a term with this index and this c."""
    if index == 0:
        return minus_of(c)
    return " - " if c[0] < 0 else " + "


def minus_of(fraction):
    """A minus for a fraction below 0, otherwise nothing."""
    return "-" if fraction[0] < 0 else ""


def size_text(fraction):
    """The text of the size of a fraction."""
    top = figures(abs(fraction[0]))
    if fraction[1] == 1:
        return top
    return top + "/" + figures(fraction[1])


def term_text(term):
    """The text of a term without its sign."""
    c, k, q = term
    pieces = []
    if k == 1:
        pieces.append("t")
    if k > 1:
        pieces.append("t^" + figures(k))
    if q[0] != 0:
        pieces.append("e^(" + minus_of(q) + size_text(q) + ")")
    size = (abs(c[0]), c[1])
    if size == UNIT and len(pieces) > 0:
        return " ".join(pieces)
    return " ".join([size_text(c)] + pieces)
