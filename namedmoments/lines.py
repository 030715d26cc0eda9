"""Polynomials in one letter as lines: dicts of integers other than 0 by their exponents."""

from math import gcd

from namedmoments.division import grid_quotient

# bits beyond those that are needed for sure, as a few more are seldom too few
SPARE_BITS = 12


def content_of(worths):
    """The greatest common divisor of a list of integers."""
    content = 0
    for worth in worths:
        content = gcd(content, worth)
        if content == 1:
            break
    return content


def lowest(table):
    """A table, a line or a grid that is not empty, in lowest terms: its greatest item is above 0."""
    content = content_of(list(table.values()))
    if table[max(list(table))] < 0:
        content = -content
    return {place: worth // content for place, worth in table.items()}


def bits_above(tables):
    """So many bits that the items of some table are less than a quarter of what they hold."""
    return min([max([abs(worth) for worth in table.values()]) for table in tables]).bit_length() + 2


def packed(line, bits):
    """What a line that is not empty is worth where its letter is 2 ^ bits."""
    above = max(list(line))
    total = 0
    for place in sorted(list(line), reverse=True):
        total = (total << (bits * (above - place))) + line[place]
        above = place
    return total << (bits * above)


def unpacked(number, bits):
    """The line that is worth a number where its letter is 2 ^ bits, of items of the least size."""
    line = {}
    full = 1 << bits
    half = full >> 1
    place = 0
    while number != 0:
        worth = number & (full - 1)
        number = number >> bits
        if worth > half:
            worth = worth - full
            number = number + 1
        if worth != 0:
            line[place] = worth
        place += 1
    return line


def line_divides(one, other):
    """Whether a line in lowest terms divides the other one."""
    grids = [{(place, 0): line[place] for place in line} for line in (one, other)]
    return grid_quotient(grids[1], grids[0]) is not None


def line_common(one, other):
    """The greatest common divisor of two lines, with that of their integers."""
    if len(one) == 0 or len(other) == 0:
        return one if len(other) == 0 else other
    content = content_of(list(one.values()) + list(other.values()))
    starts = (min(list(one)), min(list(other)))
    step = step_of([place - starts[0] for place in one] + [place - starts[1] for place in other])
    found = core_common(drawn_in(one, starts[0], step), drawn_in(other, starts[1], step))
    return {min(starts) + place * step: worth * content for place, worth in found.items()}


def drawn_in(line, start, step):
    """The line in lowest terms, with its exponents, less start, divided by step."""
    return lowest({(place - start) // step: worth for place, worth in line.items()})


def step_of(places):
    """The greatest common divisor of a list of exponents, 1 if all are 0."""
    return content_of(places) or 1


def core_common(one, other):
    """The greatest common divisor of two lines in lowest terms."""
    if len(one) == 1 or len(other) == 1:
        return {0: 1}
    # Both are worth integers where the letter is a great number, and the common divisor of
    # these, written with that number as its base, tells a line. If this line divides both,
    # nothing greater does: what were left out would be worth more than half of the base,
    # but all that is left out of the divisor is the content of its digits, at most that half.
    bits = bits_above([one, other]) + SPARE_BITS
    while True:
        shared = gcd(packed(one, bits), packed(other, bits))
        found = lowest(unpacked(shared, bits))
        if line_divides(found, one) and line_divides(found, other):
            return found
        bits = bits * 2
