"""Finding all places at which a curve is nought."""

from namedmoments.boxes import turns_in_boxes
from namedmoments.checks import rate_bottom
from namedmoments.common import bare, plain, quotient
from namedmoments.curves import at_nought, gathered
from namedmoments.grids import curve_of, grid_of, line_content
from namedmoments.ladders import turns_between
from namedmoments.places import SOON, ascending, closer, place_at, place_of
from namedmoments.ratios import NIL, UNIT
from namedmoments.rungs import most_rungs
from namedmoments.worths import drawn_curve, sign_there

# where all moments lie that come into play
LOWEST = (-1000, 1)
HIGHEST = (1000, 1)
MORE_TERMS = 2
# a ladder of so few rungs, or of so few for each part, is sooner gone down than boxes are made
SHORT = 40
DENSE = 3
MORE_BOXES = 10


def nought_places(curve):
    """The ascending list of the places of all moments from -1000 to 1000 at which a curve is nought.

    No two stretches share more than an end.
    """
    whole = plain(curve)
    lists = [[(place_at(number), ())] for number in (LOWEST, NIL, HIGHEST) if is_nought_at(whole, number)]
    for part in parts_of(whole):
        lists.append([(closer(place, SOON), ()) for place in places_between(part, LOWEST, HIGHEST)])
    return [place for place, _ in ascending(lists)]


def is_nought_at(curve, number):
    """Whether a curve is nought at a fraction."""
    if number == NIL:
        return at_nought(curve) == NIL
    return sign_there(drawn_curve(curve), number) == 0


def parts_of(curve):
    """Curves whose product is a plain curve, but for some c t ^ k e ^ (q t), and that are not 1.

    Where there are such of few terms, one is without e, one without t, and one is the rest.
    """
    least = min([k for _, k, _ in curve.terms])
    curve = gathered([(c, k - least, q) for c, k, q in curve.terms])
    without_e = bare(curve)
    rest = quotient(curve, without_e)
    bottom = rate_bottom([rest])
    rows = {}
    for (j, k), worth in grid_of(rest, bottom)[0].items():
        row = rows.setdefault(k, {})
        row[j] = worth
    shared = line_content(list(rows.values()))
    without_t = curve_of({(j, 0): worth for j, worth in shared.items()}, bottom, UNIT, NIL)
    parts = [part for part in (without_e, without_t, quotient(rest, without_t)) if len(part.terms) > 1]
    # few terms may have a part in common that leaves many
    many = sum([len(part.terms) for part in parts])
    return parts if many <= len(curve.terms) + MORE_TERMS else [curve]


def places_between(curve, low, high):
    """The list of the places between two fractions, but 0, at which a plain curve is nought."""
    bottom = rate_bottom([curve])
    grid, _, _ = grid_of(curve, bottom)
    rungs = most_rungs(grid)
    turns = None
    if rungs > max(SHORT, DENSE * len(grid)):
        turns = turns_in_boxes(grid, bottom, low, high, MORE_BOXES * rungs)
    if turns is None:
        turns = turns_between(grid, bottom, low, high)
    return [place_of(curve, start, end) for start, end, _ in turns]


def noughts_between(curve, low, high):
    """At how many moments between two fractions a plain curve is nought."""
    many = sum([len(places_between(part, low, high)) for part in parts_of(curve)])
    if low[0] < 0 and high[0] > 0 and at_nought(curve) == NIL:
        many += 1
    return many
