"""Reckoning with what is not known exactly.

A span (low, high, shift) is what is no less than low times 2 ^ shift and no more than high
times it. Each function takes so many bits as low and high keep, more or less.
"""

from math import isqrt

from namedmoments.ratios import ratio


def rounded(low, high, shift, bits):
    """The span with low and high of at most so many bits, made wider for this."""
    more = max(abs(low), abs(high)).bit_length() - bits
    if more <= 0:
        return (low, high, shift)
    return (low >> more, -(-high >> more), shift + more)


def fraction_span(fraction, bits):
    """A span of a fraction from 0 on."""
    top, bottom = fraction
    more = max(0, bits + bottom.bit_length() - top.bit_length())
    low = (top << more) // bottom
    return rounded(low, -(-(top << more) // bottom), -more, bits)


def product_span(one, other, bits):
    """A span of the product of what two spans tell, neither being below 0."""
    return rounded(one[0] * other[0], one[1] * other[1], one[2] + other[2], bits)


def multiple_span(span, integer, bits):
    """A span of an integer times what a span tells, this not being below 0."""
    low, high, shift = span
    if integer < 0:
        low, high = high, low
    return rounded(low * integer, high * integer, shift, bits)


def inverse_span(span, bits):
    """A span of 1 divided by what a span tells, this being above 0."""
    low, high, shift = span
    full = 1 << (bits + high.bit_length())
    return rounded(full // high, -(-full // low), -shift - bits - high.bit_length(), bits)


def power_span(span, many, bits):
    """A span of what a span tells, not below 0, so many times with itself multiplied."""
    power = (1, 1, 0)
    for digit in f"{many:b}":
        power = product_span(power, power, bits)
        if digit == "1":
            power = product_span(power, span, bits)
    return power


def sum_span(spans, bits):
    """A span of the sum of what some spans tell."""
    tops = [shift + max(abs(low), abs(high)).bit_length() for low, high, shift in spans]
    base = max(tops) - bits
    lows = 0
    highs = 0
    for low, high, shift in spans:
        if shift >= base:
            lows += low << (shift - base)
            highs += high << (shift - base)
        else:
            # behind so many bits nothing is left, however many more there are
            back = min(base - shift, bits + max(abs(low), abs(high)).bit_length())
            lows += low >> back
            highs -= -high >> back
    return (lows, highs, base)


def e_span(number, bits):
    """A span of e ^ number, a fraction."""
    top, bottom = number
    if top == 0:
        return (1, 1, 0)
    size = max(0, abs(top).bit_length() - bottom.bit_length() + 1)
    # e ^ number is e ^ (number / 2 ^ halvings), doubled in its exponent so often
    halvings = size + isqrt(bits) // 2 + 1
    width = bits + halvings + bits.bit_length() + 8
    span = small_e_span((abs(top) << width) // (bottom << halvings), width)
    for _ in range(halvings):
        span = product_span(span, span, width)
    if top < 0:
        return inverse_span(span, bits)
    return rounded(span[0], span[1], span[2], bits)


def small_e_span(part, width):
    """A span of e ^ x for all x, above 0 and below 1/2, of part / 2 ^ width to (part + 1) / 2 ^ width."""
    total = 0
    term = 1 << width
    count = 0
    while term > 0:
        total += term
        count += 1
        term = ((term * part) >> width) // count
    # each term is less than 3 too small, and those left out come to less than 6
    return (total, total + 3 * count + 6, -width)


def span_ends(span):
    """The pair of the fractions between which a span lies."""
    low, high, shift = span
    if shift >= 0:
        return (ratio(low << shift, 1), ratio(high << shift, 1))
    return (ratio(low, 1 << -shift), ratio(high, 1 << -shift))
