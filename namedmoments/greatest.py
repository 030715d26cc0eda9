"""The greatest grid that divides two grids."""

from namedmoments.division import grid_quotient
from namedmoments.grids import line_content, lines_of
from namedmoments.images import have_coprime_images
from namedmoments.lines import SPARE_BITS, bits_above, line_common, lowest, packed, step_of, unpacked


def grid_common(one, other):
    """The greatest grid, in lowest terms, that divides two grids in lowest terms with least j 0."""
    starts = [min([k for _, k in grid]) for grid in (one, other)]
    lifted = [(j, k - starts[0]) for j, k in one] + [(j, k - starts[1]) for j, k in other]
    steps = (step_of([j for j, _ in lifted]), step_of([k for _, k in lifted]))
    found = drawn_common(drawn_grid(one, starts[0], steps), drawn_grid(other, starts[1], steps))
    least = min(starts)
    return {(j * steps[0], least + k * steps[1]): worth for (j, k), worth in found.items()}


def drawn_grid(grid, start, steps):
    """The grid with its j and, less start, its k divided by steps."""
    return {(j // steps[0], (k - start) // steps[1]): worth for (j, k), worth in grid.items()}


def drawn_common(one, other):
    """The greatest grid that divides two grids with least j and least k 0."""
    if len(one) == 1 or len(other) == 1:
        return {(0, 0): 1}
    # with fewer powers of t than of y, it is seen sooner that no t divides both
    if max([k for _, k in one]) < max([j for j, _ in one]):
        rows = pure_common(turned(one), turned(other))
        if rows is not None:
            return {(j, 0): worth for j, worth in rows.items()}
    lines = pure_common(one, other)
    if lines is not None:
        return {(0, k): worth for k, worth in lines.items()}
    # the same as in core_common, with t in the place of the letter
    bits = bits_above([one, other]) + SPARE_BITS
    while True:
        shared = line_common(line_at(one, bits), line_at(other, bits))
        found = {}
        for j, worth in shared.items():
            for k, digit in unpacked(worth, bits).items():
                found[(j, k)] = digit
        found = lowest(found)
        if grid_quotient(one, found) is not None and grid_quotient(other, found) is not None:
            return found
        bits = bits * 2


def pure_common(one, other):
    """The greatest line in t that divides two grids, or None where something with a j but 0 may divide them."""
    if not have_coprime_images(one, other):
        return None
    return line_content(list(lines_of(one).values()) + list(lines_of(other).values()))


def turned(grid):
    """A grid with its j and its k in each other's place."""
    return {(k, j): worth for (j, k), worth in grid.items()}


def line_at(grid, bits):
    """The line in y of a grid where t is 2 ^ bits."""
    worths = {j: packed(line, bits) for j, line in lines_of(grid).items()}
    return {j: worth for j, worth in worths.items() if worth != 0}
