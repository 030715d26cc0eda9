"""Curves [1.1] and the reckoning with them [1.2]."""

from namedmoments.errors import BadCurve, NoFraction
from namedmoments.ratios import NIL, added, common_bottom, divided, is_fraction, is_number
from namedmoments.ratios import less, multiplied, negated, power_of

MOST_TERMS = 8
MOST_POWER = 3
MOST_RATE = 4
MOST_BOTTOM = 4


class Curve:
    """A sum of terms (c, k, q), each worth c t ^ k e ^ (q t)."""

    def __init__(self, terms):
        check_terms(terms)
        self.terms = terms

    def __eq__(self, other):
        return isinstance(other, Curve) and self.terms == other.terms


def check_terms(terms):
    """Raise BadCurve unless a thing is what a caller may make a curve of."""
    if not isinstance(terms, tuple) or len(terms) > MOST_TERMS:
        raise BadCurve(-1)
    for index, term in enumerate(terms):
        if not is_term(term):
            raise BadCurve(index)
        if index > 0 and not stands_behind(term, terms[index - 1]):
            raise BadCurve(index)


def is_term(thing):
    """Whether a thing is a triple (c, k, q) that a caller may pass."""
    if not isinstance(thing, tuple) or len(thing) != 3:
        return False
    c, k, q = thing
    if not is_fraction(c) or c == NIL:
        return False
    return is_number(k) and k <= MOST_POWER and is_rate(q)


def is_rate(thing):
    """Whether a thing is a fraction that a caller may pass as a q."""
    if not is_fraction(thing):
        return False
    top, bottom = thing
    return bottom <= MOST_BOTTOM and abs(top) <= MOST_RATE * bottom


def stands_behind(term, other):
    """Whether a term is greater than the other one by (q, k)."""
    if term[2] == other[2]:
        return term[1] > other[1]
    return less(other[2], term[2])


def gathered(parts):
    """The curve that is the sum of the parts, (c, k, q) in any order, c of 0 too."""
    sums = {}
    for c, k, q in parts:
        sums[(q, k)] = added(sums.get((q, k), NIL), c)
    # Curve(..) keeps the limits for callers, and what is returned may be beyond them [1.1]
    curve = Curve(())
    curve.terms = in_order([(c, k, q) for (q, k), c in sums.items() if c != NIL])
    return curve


def in_order(terms):
    """The tuple of the terms, no two of the same k and q, ascending by (q, k)."""
    # over one bottom, fractions stand as their tops do
    bottom = common_bottom([term[2] for term in terms])
    places = sorted([(q[0] * (bottom // q[1]), k, c, q) for c, k, q in terms])
    return tuple([(c, k, q) for (_, k, c, q) in places])


def plus(one, other):
    """The sum of two curves."""
    return gathered(one.terms + other.terms)


def times(one, other):
    """The product of two curves."""
    parts = []
    for c, k, q in one.terms:
        for d, j, r in other.terms:
            parts.append((multiplied(c, d), k + j, added(q, r)))
    return gathered(parts)


def scaled(curve, number):
    """So many times a curve, the number a fraction."""
    if not is_fraction(number):
        raise NoFraction()
    return gathered([(multiplied(c, number), k, q) for c, k, q in curve.terms])


def stretched(curve, number):
    """The curve that is at t what the curve is at number times t."""
    if not is_fraction(number) or number == NIL:
        raise NoFraction()
    parts = []
    for c, k, q in curve.terms:
        parts.append((multiplied(c, power_of(number, k)), k, multiplied(q, number)))
    return gathered(parts)


def slope(curve):
    """The slope of a curve."""
    parts = []
    for c, k, q in curve.terms:
        parts.append((multiplied(c, q), k, q))
        if k > 0:
            parts.append((multiplied(c, (k, 1)), k - 1, q))
    return gathered(parts)


def area(curve):
    """The curve that has this slope and is 0 at 0."""
    rows = {}
    for c, k, q in curve.terms:
        row = rows.setdefault(q, {})
        row[k] = c
    parts = []
    for q, row in rows.items():
        if q == NIL:
            parts.extend(power_areas(row))
        else:
            parts.extend(rate_areas(row, q))
    raised = gathered(parts)
    return plus(raised, gathered([(negated(at_nought(raised)), 0, NIL)]))


def power_areas(row):
    """The terms of a curve whose slope is the row's, a dict of each c by its k."""
    return [(divided(c, (k + 1, 1)), k + 1, NIL) for k, c in row.items()]


def rate_areas(row, q):
    """The same for a row beside e ^ (q t), q not 0."""
    parts = []
    above = NIL
    for k in range(max(list(row)), -1, -1):
        # the slope of the term above brings some t ^ k already
        wanting = added(row.get(k, NIL), negated(multiplied(above, (k + 1, 1))))
        above = divided(wanting, q)
        parts.append((above, k, q))
    return parts


def at_nought(curve):
    """The fraction that a curve is worth at 0."""
    worth = NIL
    for c, k, _ in curve.terms:
        if k == 0:
            worth = added(worth, c)
    return worth
