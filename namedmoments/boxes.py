"""Finding the moments at which a grid turns where its ladder [ladders] would be very long.

The line is cut into boxes until in each of them a rung near the top of a short ladder, made for
this box, is seen to be nowhere nought.
"""

from namedmoments.ladders import first_at_nought, turns_by
from namedmoments.narrowing import bits_to_spare, place_between
from namedmoments.ratios import NIL, less, ratio, sign_of
from namedmoments.rungs import rung_behind, without_nought
from namedmoments.spans import e_span, fraction_span, inverse_span, multiple_span, power_span, product_span, sum_span
from namedmoments.worths import drawn_of, sign_there

FEW_RUNGS = 4
BITS = 64
ROUGH_BITS = 32


def turns_in_boxes(grid, bottom, low, high, enough):
    """The stretches [narrowing], ascending, of all moments between two fractions, but 0, at which a grid turns.

    Or None, if so many boxes are not enough.
    """
    rung, _ = without_nought(grid)
    drawn = drawn_of(rung, bottom)
    # the more often it is nought at 0, the more rungs there are at the least to where it is not
    fewest = FEW_RUNGS + first_at_nought(rung, bottom)[0]
    waiting = [(low, high, 0)]
    if less(low, NIL) and less(NIL, high):
        waiting = [(NIL, high, 0), (low, NIL, 0)]
    found = []
    while len(waiting) > 0:
        if enough == 0:
            return None
        enough -= 1
        start, end, depth = waiting.pop()
        rungs = rungs_within(rung, bottom, start, end, fewest + depth // 2)
        if len(rungs) > 0:
            found.extend(turns_by(rungs, bottom, start, end))
        else:
            middle = cut_between(drawn, start, end)
            waiting.append((middle, end, depth + 1))
            waiting.append((start, middle, depth + 1))
    return found


def cut_between(drawn, low, high):
    """A fraction between two fractions at which a drawn grid is not nought."""
    while True:
        middle = place_between(low, high, 1, 1)
        if sign_there(drawn, middle) != 0:
            return middle
        high = middle


def rungs_within(rung, bottom, low, high, most):
    """The rungs of a ladder, at most so many, of which the last one is nowhere nought in a box; or none."""
    rungs = [(rung, False)]
    middle = place_between(low, high, 1, 1)
    bits = BITS + 2 * max(0, -bits_to_spare(low, high, 0))
    while True:
        greatest = greatest_part(rung, bottom, middle)
        if is_nowhere_nought(rung, bottom, (low, high), greatest, bits):
            return rungs
        if len(rungs) > most:
            return []
        rung, odd = rung_behind(rung, bottom, greatest[0], greatest[1])
        rungs.append((rung, odd))


def greatest_part(grid, bottom, number):
    """The (j, k) of a part of a grid than which no part is much greater at a fraction, not 0."""
    size = fraction_span((abs(number[0]), number[1]), ROUGH_BITS)
    rate = e_span(ratio(number[0], number[1] * bottom), ROUGH_BITS)
    of_line = {j: bits_of(power_span(rate, j, ROUGH_BITS)) for j in unlike([j for j, _ in grid])}
    of_power = {k: bits_of(power_span(size, k, ROUGH_BITS)) for k in unlike([k for _, k in grid])}
    sizes = [(abs(worth).bit_length() + of_line[j] + of_power[k], j, k) for (j, k), worth in grid.items()]
    _, j, k = max(sizes)
    return (j, k)


def bits_of(span):
    """About how many bits ahead of the point there are in what a span tells."""
    return span[1].bit_length() + span[2]


def unlike(places):
    """The list of some integers, each once."""
    return sorted(set(places))


def is_nowhere_nought(grid, bottom, ends, greatest, bits):
    """Whether it is seen, with so many bits, that a grid is nowhere nought between two fractions, and at them.

    They have 0 at most as one of them, and greatest is one of the parts of the grid. Divided by
    this part, all others are, each by itself, greatest at one of the ends.
    """
    low, high = ends
    sizes = [fraction_span((abs(end[0]), end[1]), bits) for end in ends]
    if low[0] < 0:
        sizes = [sizes[1], sizes[0]]
    # no power below 0 is taken of what may be 0
    power = greatest[1] if low[0] != 0 and high[0] != 0 else 0
    of_power = reaches(sizes, unlike([k for _, k in grid]), power, bits)
    rates = [e_span(ratio(end[0], end[1] * bottom), bits) for end in ends]
    of_line = reaches(rates, unlike([j for j, _ in grid]), greatest[0], bits)
    main = signed(grid, greatest, low)
    spans = []
    for place in grid:
        worth = signed(grid, place, low) * sign_of(main)
        # at the least, so much of the same sign as the greatest part, and, at the most, so much of the other
        side = 0 if worth > 0 else 1
        part = product_span(of_line[place[0]][side], of_power[place[1]][side], bits)
        spans.append(multiple_span(part, worth, bits))
    return sum_span(spans, bits)[0] > 0


def signed(grid, place, number):
    """What stands in a place of a grid, with the sign that its power of t has close to a fraction, behind it."""
    return -grid[place] if number[0] < 0 and place[1] & 1 else grid[place]


def reaches(ends, places, start, bits):
    """A dict of the spans of the least and the greatest of each power, less start, of what is between two spans."""
    found = {}
    for place in places:
        powers = [power_span(end, abs(place - start), bits) for end in ends]
        if place < start:
            powers = [inverse_span(powers[1], bits), inverse_span(powers[0], bits)]
        found[place] = powers
    return found
