"""What grids [division] are worth at fractions, and their signs over stretches.

A drawn grid is a triple (bottom, lines, places): with y = e ^ (t / bottom), which is above 0,
it is the sum of its lines, pairs (j, parts), j ascending, times y ^ j, a line being the sum of
its parts, pairs (k, worth), times t ^ k; places is the ascending list of all k.
"""

from namedmoments.checks import rate_bottom
from namedmoments.grids import grid_of, lines_of
from namedmoments.ratios import common_bottom, integer_power, ratio, sign_of
from namedmoments.spans import e_span, multiple_span, power_span, product_span, rounded, sum_span

SPARE_BITS = 48


def drawn_of(grid, bottom):
    """A drawn grid that has, wherever it is, the sign of a grid that is not empty."""
    lines = lines_of(grid)
    steps = sorted(list(lines))
    drawn = [(j - steps[0], [(k, worth) for k, worth in lines[j].items()]) for j in steps]
    return (bottom, drawn, sorted(set([k for _, k in grid])))


def drawn_curve(curve):
    """A drawn grid that has, wherever it is, the sign of a curve that is not nought everywhere."""
    bottom = rate_bottom([curve])
    grid, c, _ = grid_of(curve, bottom)
    if c[0] < 0:
        grid = {place: -worth for place, worth in grid.items()}
    return drawn_of(grid, bottom)


def scales_at(places, number):
    """A dict by k of the fraction's k-th power, times its bottom as often as the greatest k tells."""
    top, under = number
    scales = {}
    power, above = 1, 0
    for k in places:
        power = power * (top if k == above + 1 else integer_power(top, k - above))
        scales[k] = power
        above = k
    power = 1
    for k in reversed(places):
        power = power * (under if k == above - 1 else integer_power(under, above - k))
        scales[k] = scales[k] * power
        above = k
    return scales


def rate_powers(rate, steps, bits):
    """A list of the spans of a power of what a span tells for each of some steps, ascending numbers."""
    powers = []
    power, behind = (1, 1, 0), 0
    for j in steps:
        if j > behind:
            power = product_span(power, rate if j == behind + 1 else power_span(rate, j - behind, bits), bits)
        powers.append(power)
        behind = j
    return powers


def worth_at(drawn, number, good):
    """A pair (middle, shift): middle times 2 ^ shift is what a drawn grid is worth at a fraction.

    It has the right sign, 0 too; if the fraction's bottom is a power of 2, it has so many good bits.
    """
    bottom, lines, places = drawn
    scales = scales_at(places, number)
    worths = [(j, sum([worth * scales[k] for k, worth in parts])) for j, parts in lines]
    # e to unlike fractions never cancel out, so what is left is not 0, but perhaps at 0
    worths = [(j, worth) for j, worth in worths if worth != 0]
    top, under = number
    back = places[-1] * (under.bit_length() - 1)
    if len(worths) == 0 or top == 0:
        return (sum([worth for _, worth in worths]), -back)
    bits = good + under.bit_length() + SPARE_BITS
    while True:
        rate = e_span(ratio(top, under * bottom), bits)
        powers = rate_powers(rate, [j for j, _ in worths], bits)
        spans = [multiple_span(power, worth, bits) for power, (_, worth) in zip(powers, worths)]
        low, high, shift = sum_span(spans, bits)
        if (low > 0 or high < 0) and (high - low) << good <= abs(low + high):
            return (low + high, shift - 1 - back)
        bits = bits * 2


def sign_there(drawn, number):
    """The sign of a drawn grid at a fraction."""
    return sign_of(worth_at(drawn, number, 0)[0])


def stretch_sign(drawn, low, high, bits):
    """The sign of a drawn grid all over a stretch, its ends too, or 0 if it is not seen with so many bits.

    The stretch, between two fractions, has 0 at most as an end.
    """
    bottom, lines, places = drawn
    under = common_bottom([low, high])
    tops = [end[0] * (under // end[1]) for end in (low, high)]
    if low[0] < 0:
        # odd powers of t are below 0 there
        lines = [(j, [(k, -worth if k & 1 else worth) for k, worth in parts]) for j, parts in lines]
        tops = [-tops[1], -tops[0]]
    near, far = scales_at(places, (tops[0], under)), scales_at(places, (tops[1], under))
    rate = joined(e_span(ratio(low[0], low[1] * bottom), bits), e_span(ratio(high[0], high[1] * bottom), bits))
    powers = rate_powers(rate, [j for j, _ in lines], bits)
    spans = []
    for power, (_, parts) in zip(powers, lines):
        least = sum([worth * (near[k] if worth > 0 else far[k]) for k, worth in parts])
        greatest = sum([worth * (far[k] if worth > 0 else near[k]) for k, worth in parts])
        spans.append(signed_span(least, greatest, power, bits))
    low_sum, high_sum, _ = sum_span(spans, bits)
    if low_sum > 0:
        return 1
    return -1 if high_sum < 0 else 0


def joined(one, other):
    """The span from the least of one span to the greatest of the other one."""
    shift = min(one[2], other[2])
    return (one[0] << (one[2] - shift), other[1] << (other[2] - shift), shift)


def signed_span(least, greatest, power, bits):
    """A span of what is between two integers times what a span, not below 0, tells."""
    low, high, shift = power
    return rounded(least * (low if least >= 0 else high), greatest * (high if greatest >= 0 else low), shift, bits)
