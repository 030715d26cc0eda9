"""Curves as grids [division], and what is done with grids beside dividing them."""

from namedmoments.curves import gathered
from namedmoments.lines import line_common, lowest
from namedmoments.ratios import added, common_bottom, multiplied, ratio


def grid_of(curve, bottom):
    """A triple (grid, c, q): the curve is c e ^ (q t) times the grid with y = e ^ (t / bottom).

    The curve is not nought everywhere, and bottom a multiple of the bottoms of all its q.
    The grid is in lowest terms, and its least j is 0.
    """
    least = curve.terms[0][2]
    whole = common_bottom([term[0] for term in curve.terms])
    grid = {}
    for c, k, q in curve.terms:
        grid[(steps_of(q, bottom) - steps_of(least, bottom), k)] = c[0] * (whole // c[1])
    found = lowest(grid)
    lead = max(list(found))
    return (found, ratio(grid[lead], whole * found[lead]), least)


def steps_of(q, bottom):
    """The j for which q is j / bottom."""
    return q[0] * (bottom // q[1])


def curve_of(grid, bottom, c, q):
    """The curve that is c e ^ (q t) times the grid with y = e ^ (t / bottom)."""
    parts = []
    for (j, k), worth in grid.items():
        parts.append((multiplied(c, (worth, 1)), k, added(q, ratio(j, bottom))))
    return gathered(parts)


def lines_of(grid):
    """A dict of the lines in t of a grid by their j."""
    lines = {}
    for (j, k), worth in grid.items():
        line = lines.setdefault(j, {})
        line[k] = worth
    return lines


def line_content(lines):
    """The greatest line that divides each of a list of lines in t, in lowest terms."""
    content = {}
    for line in sorted(lines, key=len):
        content = line_common(content, line)
        if max(list(content)) == 0:
            break
    return lowest(content)


def grid_product(one, other):
    """The product of two grids."""
    sums = {}
    for (j, k), worth in one.items():
        for (more_j, more_k), more in other.items():
            place = (j + more_j, k + more_k)
            sums[place] = sums.get(place, 0) + worth * more
    return {place: worth for place, worth in sums.items() if worth != 0}


def grid_difference(one, other):
    """One grid less another one."""
    sums = {place: one[place] for place in one}
    for place, worth in other.items():
        sums[place] = sums.get(place, 0) - worth
    return {place: worth for place, worth in sums.items() if worth != 0}
