"""Making stretches in which a drawn grid [worths] is nought once narrower.

A stretch is a triple (low, high, ahead): between the fractions low and high the grid is nought
just once, and there it changes its sign; at low, and up to there, it has the sign ahead.
"""

from namedmoments.ratios import added, less, negated, ratio, sign_of
from namedmoments.worths import sign_there, worth_at

# between ends that are worth more unlike than this, in bits, a guess is of no use
FAR_APART = 300


def is_dyadic(number):
    """Whether a fraction's bottom is a power of 2."""
    return number[1] & (number[1] - 1) == 0


def place_between(low, high, step, grain):
    """A fraction of few figures, its bottom a power of 2, at the beginning of a cell between two fractions.

    It is no more than that of the cell of the number step, of 2 ^ grain, and less than 1/4 of a cell less.
    """
    gap, under = added(high, negated(low))
    top, bottom = added(low, ratio(gap * step, under << grain))
    shift = max(0, under.bit_length() - gap.bit_length() + grain + 3)
    return ratio((top << shift) // bottom, 1 << shift)


def is_narrow(low, high, bits):
    """Whether two fractions are at most 2 ^ -bits apart; bits may be below 0."""
    top, bottom = added(high, negated(low))
    return top << max(0, bits) <= bottom << max(0, -bits)


def bits_to_spare(low, high, bits):
    """By how many bits, at least, two fractions are farther apart than 2 ^ -bits, or a bit more."""
    top, bottom = added(high, negated(low))
    return top.bit_length() - bottom.bit_length() + bits + 1


def halved(drawn, stretch):
    """A stretch within another one, at most 3/4 as long."""
    low, high, ahead = stretch
    middle = place_between(low, high, 1, 1)
    sign = sign_there(drawn, middle)
    if sign == 0:
        return close_around(middle, stretch, 0)
    return (middle, high, ahead) if sign == ahead else (low, middle, ahead)


def close_around(number, stretch, bits):
    """The stretch around the fraction at which the grid is nought, at most 2 ^ -bits long."""
    low, high, ahead = stretch
    shift = max(0, bits + 1)
    while True:
        start = added(number, (-1, 1 << shift))
        end = added(number, (1, 1 << shift))
        if less(low, start) and less(end, high):
            return (start, end, ahead)
        shift += 1


def narrowed(drawn, stretch, bits):
    """A stretch within another one, perhaps this one, at most 2 ^ -bits long."""
    while not is_narrow(stretch[0], stretch[1], bits) and not (is_dyadic(stretch[0]) and is_dyadic(stretch[1])):
        stretch = halved(drawn, stretch)
    low, high, ahead = stretch
    if is_narrow(low, high, bits):
        return stretch
    # A cell is 2 ^ grain times shorter than the stretch. The closer both ends are, the better
    # a guess is, so grain grows with each cell that holds the nought.
    grain = 1
    ends = [(low, worth_at(drawn, low, 4)), (high, worth_at(drawn, high, 4))]
    while not is_narrow(ends[0][0], ends[1][0], bits):
        grain = max(1, min(grain, bits_to_spare(ends[0][0], ends[1][0], bits)))
        cell = cell_of_guess(drawn, ends, grain)
        for number, worth in cell:
            if worth[0] == 0:
                return close_around(number, (ends[0][0], ends[1][0], ahead), bits)
        signs = [ahead * sign_of(worth[0]) for _, worth in cell]
        if signs[0] < 0:
            ends = [ends[0], cell[0]]
        elif signs[1] > 0:
            ends = [cell[1], ends[1]]
        else:
            ends = cell
            grain = 4 * grain
        grain = grain // 2
    return (ends[0][0], ends[1][0], ahead)


def cell_of_guess(drawn, ends, grain):
    """The two ends, pairs of a fraction and its worth, of the cell in which the nought may be."""
    place = place_of_guess(ends[0][1], ends[1][1], grain)
    cell = []
    for step, known in ((place, ends[0]), (place + 1, ends[1])):
        if step == 0 or step == 1 << grain:
            cell.append(known)
        else:
            number = place_between(ends[0][0], ends[1][0], step, grain)
            cell.append((number, worth_at(drawn, number, 2 * grain + 4)))
    return cell


def place_of_guess(at_low, at_high, grain):
    """The number of the cell, of 2 ^ grain, in which a straight line between two worths is 0."""
    shift = min(at_low[1], at_high[1])
    tops = [abs(at_low[0]).bit_length() + at_low[1], abs(at_high[0]).bit_length() + at_high[1]]
    if abs(tops[0] - tops[1]) > FAR_APART:
        return 0 if tops[0] < tops[1] else (1 << grain) - 1
    one = abs(at_low[0]) << (at_low[1] - shift)
    other = abs(at_high[0]) << (at_high[1] - shift)
    return min((one << grain) // (one + other), (1 << grain) - 1)
