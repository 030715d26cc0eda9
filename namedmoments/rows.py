"""Rows: the signs of several curves along the whole line [5.1]."""

from namedmoments.checks import check_bottoms
from namedmoments.curves import Curve
from namedmoments.errors import NoCell, NoCurves
from namedmoments.finding import nought_places
from namedmoments.moments import moment_of, place_from
from namedmoments.places import ascending, told_apart
from namedmoments.ratios import NIL, is_number
from namedmoments.worths import drawn_curve, sign_there

MOST_CURVES = 5


class Row:
    """Some curves, the moments at which some of them is nought, and the signs of all of them."""

    def __init__(self, curves):
        if not are_curves(curves, 1, MOST_CURVES) or has_nought(curves):
            raise NoCurves()
        check_bottoms(list(curves))
        self.curves = tuple(curves)
        self.marked = ascending(marked_places(self.curves))
        self.table = table_of(self.curves, self.marked)

    def __eq__(self, other):
        return isinstance(other, Row) and self.curves == other.curves

    def moments(self):
        """The ascending list of Moments that name all moments at which some curve is nought."""
        return [moment_of(place) for place, _ in self.marked]

    def signs(self, cell):
        """The tuple of the signs of all curves in a cell."""
        if not is_number(cell) or cell >= len(self.table):
            raise NoCell()
        return self.table[cell]

    def cell_of(self, moment):
        """The cell in which a moment lies."""
        check_bottoms(list(self.curves) + [moment.curve])
        place = place_from(moment)
        for index, (known, _) in enumerate(self.marked):
            order, place, _ = told_apart(place, known)
            if order <= 0:
                return 2 * index if order < 0 else 2 * index + 1
        return 2 * len(self.marked)


def are_curves(thing, least, most):
    """Whether a thing is a tuple or list of so many curves."""
    if not isinstance(thing, (tuple, list)) or not least <= len(thing) <= most:
        return False
    return all([isinstance(curve, Curve) for curve in thing])


def has_nought(curves):
    """Whether one of some curves is nought everywhere."""
    return any([len(curve.terms) == 0 for curve in curves])


def marked_places(curves):
    """For each curve the list of its places, each with the tuple of the curve's number."""
    return [[(place, (index,)) for place in nought_places(curve)] for index, curve in enumerate(curves)]


def table_of(curves, marked):
    """The list of the tuple of the signs of the curves in each cell."""
    drawn = [drawn_curve(curve) for curve in curves]
    # the end of a stretch with a place in it lies in the cell beside the place
    start = marked[0][0][2][0] if len(marked) > 0 else NIL
    signs = [sign_there(one, start) for one in drawn]
    table = [tuple(signs)]
    for place, marks in marked:
        table.append(tuple([0 if index in marks else sign for index, sign in enumerate(signs)]))
        signs = [sign_there(one, place[2][1]) for one in drawn]
        table.append(tuple(signs))
    return table
