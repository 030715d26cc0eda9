"""Polynomials in one letter as lists of integers by their exponents, the last one not 0."""


def pseudo_division(one, other):
    """A pair (multiple, rest): one times a power of other's last is the multiple of other and the rest.

    The power is one above the difference of their exponents, the rest shorter than other.
    """
    many = len(other) - 1
    lead = other[many]
    drop = len(one) - 1 - many
    powers = [1]
    for _ in range(drop + 1):
        powers.append(powers[-1] * lead)
    # only what the next step needs is made greater already
    rest = one[drop:]
    multiple = [0] * (drop + 1)
    for place in range(drop, -1, -1):
        top = rest.pop()
        multiple[place] = top * powers[place]
        rest = [lead * x - top * y for x, y in zip(rest, other)]
        if place > 0:
            rest.insert(0, one[place - 1] * powers[drop + 1 - place])
    return (multiple, cut_short(rest))


def cut_short(worths):
    """The same list without the noughts at its end."""
    many = len(worths)
    while many > 0 and worths[many - 1] == 0:
        many -= 1
    return worths[:many]


def product_of(one, other):
    """The product of two lists."""
    if len(one) == 0 or len(other) == 0:
        return []
    sums = [0] * (len(one) + len(other) - 1)
    for place, worth in enumerate(one):
        if worth != 0:
            for more, x in enumerate(other):
                sums[place + more] = sums[place + more] + worth * x
    return sums


def difference(one, other):
    """One list less another one."""
    many = max(len(one), len(other))
    first = one + [0] * (many - len(one))
    second = other + [0] * (many - len(other))
    return [x - y for x, y in zip(first, second)]
