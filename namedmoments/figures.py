"""Integers of any size, written in figures."""


def figures(number):
    """The figures of an integer above 0."""
    # str alone refuses integers of more than some thousand figures, so the number
    # is halved until each piece has at most sixty
    powers = [10 ** 60]
    while powers[-1] * powers[-1] <= number:
        powers.append(powers[-1] * powers[-1])
    pieces = [number]
    for power in reversed(powers):
        pieces = [half for piece in pieces for half in divmod(piece, power)]
    return "".join([str(piece).zfill(60) for piece in pieces]).lstrip("0")
