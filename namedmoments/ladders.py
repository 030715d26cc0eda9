"""Finding the moments at which a grid [division] turns, that is, changes its sign.

The last rung [rungs] of its ladder turns nowhere but at 0. Where a rung turns is told by its
signs at the moments at which the rung behind it turns.
"""

from namedmoments.greatest import grid_common
from namedmoments.lines import lowest
from namedmoments.narrowing import bits_to_spare, narrowed
from namedmoments.ratios import NIL, less, ratio, sign_of
from namedmoments.rungs import rungs_of
from namedmoments.worths import drawn_of, sign_there, stretch_sign

CLOSE = 64


def turns_between(grid, bottom, low, high):
    """The stretches [narrowing], ascending, of all moments between two fractions, but 0, at which a grid turns.

    No two stretches share more than an end, and none holds 0, but perhaps as an end.
    """
    return turns_by(rungs_of(grid, bottom), bottom, low, high)


def turns_by(rungs, bottom, low, high):
    """The same by its rungs, of which the last one turns nowhere between the two fractions but at 0."""
    found = []
    for index in range(len(rungs) - 2, -1, -1):
        found = turns_of(rungs[index][0], rungs[index + 1], bottom, breaks_of(found, low, high))
    return found


def breaks_of(stretches, low, high):
    """The stretches, and, as stretches from one fraction to itself, both ends and 0 if it is between them."""
    breaks = [(low, low, 0)]
    if less(low, NIL) and less(NIL, high):
        breaks.extend([stretch for stretch in stretches if stretch[0][0] < 0])
        breaks.append((NIL, NIL, 0))
        breaks.extend([stretch for stretch in stretches if stretch[0][0] >= 0])
    else:
        breaks.extend(stretches)
    breaks.append((high, high, 0))
    return breaks


def turns_of(grid, behind, bottom, breaks):
    """The stretches of the moments at which a rung turns, by the breaks of the rung behind it."""
    drawn = drawn_of(grid, bottom)
    drawn_behind = drawn_of(behind[0], bottom)
    found = []
    start, ahead = breaks[0][0], 0
    for stretch in breaks:
        if stretch[0] == stretch[1]:
            low, high, (before, after) = stretch[0], stretch[1], signs_around(drawn, grid, stretch[0])
        else:
            low, high, sign = settled((grid, drawn), (behind[0], drawn_behind), behind[1], stretch)
            before = after = sign
        if ahead * before < 0:
            found.append((off_nought(drawn, start, low, ahead), off_nought(drawn, low, start, before), ahead))
        start, ahead = high, after
    return found


def off_nought(drawn, end, other, sign):
    """The end of a stretch, or, where a rung is nought there as this is 0, one that is between and has this sign."""
    if end != NIL or sign_there(drawn, end) != 0:
        return end
    end = half_of(other)
    while sign_there(drawn, end) != sign:
        end = half_of(end)
    return end


def half_of(number):
    """Half of a fraction."""
    return ratio(number[0], 2 * number[1])


def signs_around(drawn, grid, number):
    """The pair of the signs of a rung close ahead of 0 and close behind it; of those at another fraction."""
    sign = sign_there(drawn, number)
    if sign != 0 or number != NIL:
        return (sign, sign)
    order, sign = first_at_nought(grid, drawn[0])
    return (-sign if order & 1 else sign, sign)


def first_at_nought(grid, bottom):
    """The pair (order, sign) of the first of a grid, its slope, the slope of this, .. that is not 0 at 0."""
    order = 0
    while True:
        # t ^ k y ^ j brings j ^ (order - k) order .. (order - k + 1), over the bottom so often
        total = 0
        for (j, k), worth in grid.items():
            if k <= order and (j != 0 or k == order):
                total = total + worth * share_at_nought(j, k, order, bottom)
        if total != 0:
            return (order, sign_of(total))
        order += 1


def share_at_nought(j, k, order, bottom):
    """What the slope of this order of t ^ k y ^ j is worth at 0, times the bottom as often as order tells."""
    share = 1
    for step in range(order):
        share = share * (bottom * (order - step) if step < k else j)
    return share


def settled(rung, behind, odd, stretch):
    """A triple (low, high, sign): a stretch within the stretch of a turn of the rung behind a rung.

    The sign is that of the rung at that moment, and, if it is not 0, at low and high, too.
    Rungs are pairs of a grid and its drawn one.
    """
    # so multiplied as the ladder tells, the rung is at its greatest or at its least there
    side = -stretch[2] if odd and stretch[0][0] < 0 else stretch[2]
    more = 2
    asked = False
    while True:
        low, high, _ = stretch
        signs = (sign_there(rung[1], low), sign_there(rung[1], high))
        if signs == (side, side):
            return (low, high, side)
        spare = bits_to_spare(low, high, CLOSE)
        if side not in signs:
            if stretch_sign(rung[1], low, high, 2 * max(CLOSE, CLOSE - spare)) != 0:
                return (low, high, -side)
            if not asked and spare <= 0:
                asked = True
                if is_shared(rung[0], behind[0], rung[1][0], stretch):
                    return (low, high, 0)
        stretch = narrowed(behind[1], stretch, CLOSE - spare + more)
        more = 2 * more


def is_shared(one, other, bottom, stretch):
    """Whether a grid is nought where another one, in this stretch, turns."""
    both = drawn_of(grid_common(lowered(one), lowered(other)), bottom)
    return sign_there(both, stretch[0]) != sign_there(both, stretch[1])


def lowered(grid):
    """A grid in lowest terms, less all its y."""
    least = min(list(grid))[0]
    return lowest({(j - least, k): worth for (j, k), worth in grid.items()})
