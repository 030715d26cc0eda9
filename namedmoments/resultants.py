"""Resultants of polynomials and how they come about."""

from namedmoments.dense import difference, product_of, pseudo_division
from namedmoments.ratios import integer_power


def resultant_and_factor(one, other):
    """A pair (resultant, factor): the factor, a list shorter than other, times one is the
    resultant less some multiple of other.

    Both have an exponent above 0, one's no less than other's. None if the resultant is 0.
    """
    above, below = one, other
    factor_above, factor_below = [1], []
    lead, high, sign = 1, 1, 1
    while len(below) > 1:
        drop = len(above) - len(below)
        if (len(above) - 1) & (len(below) - 1) & 1:
            sign = -sign
        multiple, rest = pseudo_division(above, below)
        if len(rest) == 0:
            return None
        scale = integer_power(below[-1], drop + 1)
        # the chain of subresultants: all of these divide without a rest
        under = lead * integer_power(high, drop)
        factor = difference([scale * x for x in factor_above], product_of(multiple, factor_below))
        above, below = below, [x // under for x in rest]
        factor_above, factor_below = factor_below, [x // under for x in factor]
        lead = above[-1]
        if drop > 0:
            high = integer_power(lead, drop) // integer_power(high, drop - 1)
    drop = len(above) - 1
    resultant = sign * integer_power(below[0], drop) // integer_power(high, drop - 1)
    return (resultant, [x * resultant // below[0] for x in factor_below])
