"""What curves are worth, as far as signs go [3.1]."""

from namedmoments.checks import check_near, check_some
from namedmoments.curves import at_nought
from namedmoments.errors import NoNumber, NoSide
from namedmoments.ratios import NIL, added, common_bottom, integer_power, is_integer, is_number
from namedmoments.ratios import less, multiplied, negated, sign_of
from namedmoments.spans import e_span, fraction_span, multiple_span, power_span, product_span
from namedmoments.spans import span_ends, sum_span

MOST_DIGITS = 40
FIRST_BITS = 96


def e_between(number, many):
    """A pair of fractions, at most 10 ^ -many apart, between which e ^ number lies."""
    check_near(number)
    if not is_number(many) or many > MOST_DIGITS:
        raise NoNumber()
    top, bottom = number
    # at most 3/2 bits ahead of the point for each 1 of the number, 10/3 behind it for each digit
    bits = FIRST_BITS + 4 * many + 2 * (abs(top) // bottom)
    while True:
        low, high = span_ends(e_span(number, bits))
        if not less((1, integer_power(10, many)), added(high, negated(low))):
            return (low, high)
        bits = bits * 2


def sign_at(curve, number):
    """The sign of what a curve is worth at a fraction."""
    check_near(number)
    if number == NIL:
        return sign_of(at_nought(curve)[0])
    lines = lines_by_rate(curve)
    # e to unlike fractions never cancel out, so a curve is nought just where each line is
    left = {q: line for q, line in lines.items() if not line_is_nought(line, number)}
    if len(left) == 0:
        return 0
    start = min([k for line in left.values() for k in line])
    turn = -1 if number[0] < 0 and start & 1 else 1
    parts = drawn_parts(left, start)
    bits = FIRST_BITS
    while True:
        low, high, _ = worth_span(parts, number, bits)
        if low > 0 or high < 0:
            return turn if low > 0 else -turn
        bits = bits * 2


def drawn_parts(lines, start):
    """A list of pairs (q, line): lines by q, each k less start, each q less one of them."""
    least = negated(list(lines)[0])
    parts = []
    for q, line in lines.items():
        parts.append((added(q, least), {k - start: worth for k, worth in line.items()}))
    return parts


def lines_by_rate(curve):
    """A dict by q: what stands beside e ^ (q t) in some multiple of a curve, integers by k."""
    whole = common_bottom([term[0] for term in curve.terms])
    lines = {}
    for c, k, q in curve.terms:
        line = lines.setdefault(q, {})
        line[k] = c[0] * (whole // c[1])
    return lines


def line_is_nought(line, number):
    """Whether the polynomial with these integers by k is 0 at a fraction other than 0."""
    top, bottom = number
    if bottom == 1 and abs(top) == 1:
        return sum([worth * top if k & 1 else worth for k, worth in line.items()]) == 0
    if abs(top) == 1:
        # read from its other end, it is a polynomial of 1 divided by the number
        most = max(list(line))
        return line_is_nought({most - k: worth for k, worth in line.items()}, (top * bottom, 1))
    carry = 0
    place = 0
    for k in sorted(list(line)):
        gap = k - place
        if carry != 0:
            # what is left must be worth as many tops as the next powers have
            if gap > carry.bit_length() or carry % integer_power(top, gap) != 0:
                return False
            carry = carry // integer_power(top, gap) * integer_power(bottom, gap)
        carry = carry + line[k]
        place = k
    return carry == 0


def worth_span(parts, number, bits):
    """A span of what pairs (q, line), not none, are worth at a fraction other than 0."""
    size = fraction_span((abs(number[0]), number[1]), bits)
    spans = []
    for q, line in parts:
        rate = e_span(multiplied(q, number), bits)
        for k, worth in line.items():
            if number[0] < 0 and k & 1:
                worth = -worth
            part = product_span(power_span(size, k, bits), rate, bits)
            spans.append(multiple_span(part, worth, bits))
    return sum_span(spans, bits)


def far_sign(curve, side):
    """The sign that a curve has from some moment on, or, for side -1, up to some moment."""
    check_some(curve)
    if not is_integer(side) or side not in (1, -1):
        raise NoSide()
    if side == 1:
        return sign_of(curve.terms[-1][0][0])
    least = [(k, c[0]) for c, k, q in curve.terms if q == curve.terms[0][2]]
    k, top = least[-1]
    return -sign_of(top) if k & 1 else sign_of(top)


def order_at_nought(curve):
    """How many of a curve, its slope, the slope of this, .. are 0 at 0 ahead of the first that is not."""
    check_some(curve)
    start = min([k for _, k, _ in curve.terms])
    whole = common_bottom([c for c, _, _ in curve.terms])
    under = common_bottom([q for _, _, q in curve.terms])
    waiting = [(k - start, c[0] * (whole // c[1]), q[0] * (under // q[1])) for c, k, q in curve.terms]
    rows = []
    order = 0
    scale = 1
    while True:
        # a row has k, its step, and its share in what the slope of this order is worth at 0
        rows = [(k, step, share * step * order // (order - k)) for k, step, share in rows]
        rows.extend([(k, step, worth * scale) for k, worth, step in waiting if k == order])
        if sum([share for _, _, share in rows]) != 0:
            return start + order
        order += 1
        scale = scale * under * order
