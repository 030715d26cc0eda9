"""The rungs of the ladder [ladders] of a grid [division], and which way down is short.

With y = e ^ (t / bottom), t ^ -a y ^ -i times a grid has a slope that is, but for such a factor,
a grid again. Its line of i has no t ^ a any more, or a t less beside each part where a is 0;
each other line may have a t more. So, line by line, all but one part of a grid goes.
"""

from namedmoments.lines import content_of

# with so few powers of t no way down is much shorter than the plain one
FEW_POWERS = 4
FEW_LINES = 3


def rungs_of(grid, bottom):
    """A list of pairs (grid, odd): the rungs down to a single part, beginning with a grid less all its t.

    Between moments at which the rung behind it turns, some t ^ -a y ^ -i times a rung only rises
    or only falls, by the sign of the rung behind it, and by that of t if odd, the sign of t ^ a too.
    """
    rung, _ = without_nought(grid)
    rungs = [(rung, False)]
    line, plainly = 0, True
    while len(rung) > 1:
        masks = masks_of(rung)
        if len(rungs) == 1 or line not in masks:
            line, plainly = line_to_go(masks)
        power = 0 if plainly else place_of_least(masks[line])
        rung, lifted = without_nought(sloped(rung, bottom, line, power))
        rungs.append((rung, lifted & 1 == 0))
    return rungs


def without_nought(grid):
    """A grid divided by all t and all integers above 0 that divide it, and how many t these are."""
    least = min([k for _, k in grid])
    content = content_of(list(grid.values()))
    return ({(j, k - least): worth // content for (j, k), worth in grid.items()}, least)


def sloped(grid, bottom, line, power):
    """The grid of the slope of t ^ -power y ^ -line times a grid, times bottom, y ^ line and t ^ (power + 1)."""
    sums = {}
    for (j, k), worth in grid.items():
        sums[(j, k)] = sums.get((j, k), 0) + worth * bottom * (k - power)
        sums[(j, k + 1)] = sums.get((j, k + 1), 0) + worth * (j - line)
    return {place: worth for place, worth in sums.items() if worth != 0}


def masks_of(grid):
    """A dict by j of an integer whose binary figures tell which k are in the line of j."""
    masks = {}
    for j, k in grid:
        masks[j] = masks.get(j, 0) | 1 << k
    return masks


def place_of_least(mask):
    """The least k of a mask."""
    return (mask & -mask).bit_length() - 1


def line_to_go(masks):
    """A pair (line, plainly): which line goes next, and whether by its t or part by part."""
    by_degree = sorted([(mask.bit_length(), j) for j, mask in masks.items()])
    if by_degree[-1][0] <= FEW_POWERS:
        return (by_degree[0][1], len(masks) > 1)
    if len(masks) == 1:
        return (by_degree[0][1], False)
    by_parts = sorted([(count_of(mask), j) for j, mask in masks.items()])
    ways = [(j, True) for _, j in by_degree[:FEW_LINES]] + [(j, False) for _, j in by_parts[:FEW_LINES]]
    lengths = [(length_of(masks, line, plainly), place) for place, (line, plainly) in enumerate(ways)]
    return ways[min(lengths)[1]]


def count_of(mask):
    """How many k are in a mask."""
    figures = f"{mask:b}"
    return figures.count("1")


def length_of(masks, line, plainly):
    """How many rungs there are, at most, if this line goes so, and the others by their t."""
    steps = 0
    while len(masks) > 1:
        masks = masks_behind(masks, line, 0 if plainly else place_of_least(masks[line]))
        steps += 1
        if line not in masks:
            line = min([(mask.bit_length(), j) for j, mask in masks.items()])[1]
            plainly = True
    return steps + count_of(list(masks.values())[0])


def masks_behind(masks, line, power):
    """The masks of the next rung, if nothing cancels out."""
    found = {}
    for j, mask in masks.items():
        left = mask & ~(1 << power)
        if j != line:
            left = left | mask << 1
        if left != 0:
            found[j] = left
    lifted = min([place_of_least(mask) for mask in found.values()])
    return {j: mask >> lifted for j, mask in found.items()}
