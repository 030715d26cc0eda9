"""The rungs of the ladder [ladders] of a grid [division].

With y = e ^ (t / bottom), t ^ -a y ^ -i times a grid has a slope that is, but for such a factor,
a grid again. Its line of i has no t ^ a any more, or, where a is 0, its greatest k is one less.
"""

from namedmoments.lines import content_of


def rungs_of(grid, bottom):
    """A list of pairs (grid, odd): the rungs down to a single part, beginning with a grid less all its t.

    Between moments at which the rung behind it turns, some t ^ -a y ^ -i times a rung only rises
    or only falls, by the sign of the rung behind it, and by that of t if odd, the sign of t ^ a too.
    """
    rung, _ = without_nought(grid)
    rungs = [(rung, False)]
    while len(rung) > 1:
        rung, odd = rung_behind(rung, bottom, shortest_line(rung), 0)
        rungs.append((rung, odd))
    return rungs


def rung_behind(grid, bottom, line, power):
    """The rung behind a grid, for t ^ -power y ^ -line."""
    rung, lifted = without_nought(sloped(grid, bottom, line, power))
    return (rung, lifted & 1 == 0)


def without_nought(grid):
    """A grid divided by all t and all integers above 0 that divide it, and how many t these are."""
    least = min([k for _, k in grid])
    content = content_of(list(grid.values()))
    return ({(j, k - least): worth // content for (j, k), worth in grid.items()}, least)


def sloped(grid, bottom, line, power):
    """The grid of the slope of t ^ -power y ^ -line times a grid, times bottom, y ^ line and t ^ (power + 1)."""
    sums = {}
    for (j, k), worth in grid.items():
        sums[(j, k)] = sums.get((j, k), 0) + worth * bottom * (k - power)
        sums[(j, k + 1)] = sums.get((j, k + 1), 0) + worth * (j - line)
    return {place: worth for place, worth in sums.items() if worth != 0}


def degrees_of(grid):
    """A dict of the greatest k of each j of a grid."""
    degrees = {}
    for j, k in grid:
        degrees[j] = max(k, degrees.get(j, 0))
    return degrees


def shortest_line(grid):
    """The j of the line of a grid with the least power of t."""
    return min([(degree, j) for j, degree in degrees_of(grid).items()])[1]


def most_rungs(grid):
    """How many rungs a grid, less all its t, has at most."""
    degrees = degrees_of(grid)
    if len(degrees) == 1:
        return len(grid)
    least = min([k for _, k in grid])
    return sum([degree - least + 1 for degree in degrees.values()])
