"""Common parts of curves [2.1], plain curves and bare ones [2.2]."""

from namedmoments.checks import check_bottoms, check_some, rate_bottom
from namedmoments.curves import gathered, slope
from namedmoments.division import grid_quotient
from namedmoments.greatest import grid_common
from namedmoments.grids import curve_of, grid_of, line_content, lines_of
from namedmoments.images import leaves_a_rest
from namedmoments.lines import step_of
from namedmoments.ratios import NIL, UNIT, added, divided, negated

LONG_WAY = 50


def trimmed(curve):
    """The trimmed curve that divides a curve and is divided by it."""
    check_some(curve)
    least = negated(curve.terms[0][2])
    last = curve.terms[-1][0]
    return gathered([(divided(c, last), k, added(q, least)) for c, k, q in curve.terms])


def quotient(one, other):
    """The curve by which other must be multiplied to give one, or None."""
    check_some(other)
    if len(one.terms) == 0:
        return gathered([])
    bottom = rate_bottom([one, other])
    above, c, q = grid_of(one, bottom)
    under, d, r = grid_of(other, bottom)
    # many steps may lie ahead of a rest, and ever greater integers on the way
    if max([j for j, _ in above]) > LONG_WAY * (len(above) + len(under)) and leaves_a_rest(above, under):
        return None
    found = quotient_by_classes(above, under)
    if found is None:
        return None
    return curve_of(found, bottom, divided(c, d), added(q, negated(r)))


def quotient_by_classes(one, other):
    """The quotient of two grids, or None, one being cut into what goes in the steps of other."""
    step = step_of([j for j, _ in other])
    classes = {}
    for (j, k), worth in one.items():
        part = classes.setdefault(j % step, {})
        part[(j // step, k)] = worth
    under = {(j // step, k): worth for (j, k), worth in other.items()}
    found = {}
    for start, part in classes.items():
        piece = grid_quotient(part, under)
        if piece is None:
            return None
        for (j, k), worth in piece.items():
            found[(start + j * step, k)] = worth
    return found


def common(one, other):
    """The common part of two curves."""
    if len(one.terms) == 0:
        check_some(other)
    check_bottoms([one, other])
    if len(one.terms) == 0 or len(other.terms) == 0:
        return trimmed(one if len(other.terms) == 0 else other)
    bottom = rate_bottom([one, other])
    found = grid_common(grid_of(one, bottom)[0], grid_of(other, bottom)[0])
    return trimmed(curve_of(found, bottom, UNIT, NIL))


def plain(curve):
    """The trimmed curve that is nought at the same moments, each unlike one just once but at 0."""
    check_some(curve)
    return trimmed(quotient(curve, common(curve, slope(curve))))


def is_plain(curve):
    """Whether a curve that is not nought everywhere is plain."""
    return common(curve, slope(curve)).terms == ((UNIT, 0, NIL),)


def bare(curve):
    """The greatest trimmed curve with no q but 0 that divides a curve."""
    check_some(curve)
    # whatever its bottoms, the terms of each q have a line of their own
    grid, _, _ = grid_of(curve, rate_bottom([curve]))
    content = line_content(list(lines_of(grid).values()))
    return trimmed(gathered([((worth, 1), k, NIL) for k, worth in content.items()]))
