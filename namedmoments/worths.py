"""What grids [division] are worth at fractions, and their signs over stretches.

A drawn grid is a triple (bottom, lines, most): with y = e ^ (t / bottom), which is above 0,
it is the sum of its lines, pairs (j, parts), times y ^ j, a line being the sum of its parts,
pairs (k, worth), k descending, times t ^ k; most is its greatest k.
"""

from namedmoments.checks import rate_bottom
from namedmoments.grids import grid_of, lines_of
from namedmoments.ratios import common_bottom, integer_power, ratio, sign_of
from namedmoments.spans import e_span, multiple_span, power_span, rounded, sum_span

SPARE_BITS = 48


def drawn_of(grid, bottom):
    """A drawn grid that has, wherever it is, the sign of a grid that is not empty."""
    least = min(list(grid))[0]
    lines = []
    for j, line in lines_of(grid).items():
        parts = [(k, line[k]) for k in sorted(list(line), reverse=True)]
        lines.append((j - least, parts))
    return (bottom, lines, max([k for _, k in grid]))


def drawn_curve(curve):
    """A drawn grid that has, wherever it is, the sign of a curve that is not nought everywhere."""
    bottom = rate_bottom([curve])
    grid, c, _ = grid_of(curve, bottom)
    if c[0] < 0:
        grid = {place: -worth for place, worth in grid.items()}
    return drawn_of(grid, bottom)


def line_worth(parts, number, most):
    """What a line is worth at a fraction, times the fraction's bottom as often as most tells."""
    top, bottom = number
    total = 0
    scale = 1
    above = most
    for k, worth in parts:
        gap = above - k
        if gap > 0:
            total = total * integer_power(top, gap)
            scale = scale * integer_power(bottom, gap)
        total = total + worth * scale
        above = k
    return total * integer_power(top, above)


def worth_at(drawn, number, good):
    """A pair (middle, shift): middle times 2 ^ shift is what a drawn grid is worth at a fraction.

    It has the right sign, 0 too; if the fraction's bottom is a power of 2, it has so many good bits.
    """
    bottom, lines, most = drawn
    worths = [(j, line_worth(parts, number, most)) for j, parts in lines]
    # e to unlike fractions never cancel out, so what is left is not 0, but perhaps at 0
    worths = [(j, worth) for j, worth in worths if worth != 0]
    top, under = number
    back = most * (under.bit_length() - 1)
    if len(worths) == 0 or top == 0:
        return (sum([worth for _, worth in worths]), -back)
    bits = good + under.bit_length() + SPARE_BITS
    while True:
        rate = e_span(ratio(top, under * bottom), bits)
        spans = [multiple_span(power_span(rate, j, bits), worth, bits) for j, worth in worths]
        low, high, shift = sum_span(spans, bits)
        if (low > 0 or high < 0) and (high - low) << good <= abs(low + high):
            return (low + high, shift - 1 - back)
        bits = bits * 2


def sign_there(drawn, number):
    """The sign of a drawn grid at a fraction."""
    return sign_of(worth_at(drawn, number, 0)[0])


def stretch_sign(drawn, low, high, bits):
    """The sign of a drawn grid all over a stretch, its ends too, or 0 if it is not seen with so many bits.

    The stretch, between two fractions, has 0 at most as an end.
    """
    bottom, lines, most = drawn
    under = common_bottom([low, high])
    ends = [(low[0] * (under // low[1]), under), (high[0] * (under // high[1]), under)]
    if low[0] < 0:
        ends = [(-top, under) for top, _ in reversed(ends)]
    rate = joined(e_span(ratio(low[0], low[1] * bottom), bits), e_span(ratio(high[0], high[1] * bottom), bits))
    spans = []
    for j, parts in lines:
        if low[0] < 0:
            parts = [(k, -worth if k & 1 else worth) for k, worth in parts]
        spans.append(line_span(parts, ends, most, power_span(rate, j, bits), bits))
    least, greatest, _ = sum_span(spans, bits)
    if least > 0:
        return 1
    return -1 if greatest < 0 else 0


def joined(one, other):
    """The span from the least of one span to the greatest of the other one."""
    shift = min(one[2], other[2])
    return (one[0] << (one[2] - shift), other[1] << (other[2] - shift), shift)


def line_span(parts, ends, most, rate, bits):
    """A span of a line between two fractions from 0 on, times what the span rate tells."""
    rising = [(k, worth) for k, worth in parts if worth > 0]
    falling = [(k, worth) for k, worth in parts if worth < 0]
    near, far = ends
    low = line_worth(rising, near, most) + line_worth(falling, far, most)
    high = line_worth(rising, far, most) + line_worth(falling, near, most)
    least, greatest, shift = rate
    low = low * (least if low >= 0 else greatest)
    high = high * (greatest if high >= 0 else least)
    return rounded(low, high, shift, bits)
