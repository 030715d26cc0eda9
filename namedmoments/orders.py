"""Which of several curves is ahead when [5.2]."""

from namedmoments.checks import check_bottoms
from namedmoments.curves import plus, scaled
from namedmoments.errors import NoCurves
from namedmoments.moments import moment_of
from namedmoments.places import ascending
from namedmoments.rows import are_curves, marked_places, table_of

MOST_RANKED = 4


def orders(curves):
    """A pair: the Moments at which two unlike curves are worth the same, and the ranking in each cell."""
    if not are_curves(curves, 1, MOST_RANKED):
        raise NoCurves()
    pairs = unlike_pairs(curves)
    leads = [plus(curves[one], scaled(curves[other], (-1, 1))) for one, other in pairs]
    check_bottoms(leads)
    marked = ascending(marked_places(leads))
    rankings = [ranking_of(len(curves), pairs, signs) for signs in table_of(leads, marked)]
    return ([moment_of(place) for place, _ in marked], rankings)


def unlike_pairs(curves):
    """The list of pairs of numbers, ascending, of curves that are not equal."""
    pairs = []
    for one in range(len(curves)):
        for other in range(one + 1, len(curves)):
            if curves[one] != curves[other]:
                pairs.append((one, other))
    return pairs


def ranking_of(many, pairs, signs):
    """The tuple of lots of so many curves, by the signs of what one of each pair has more than the other."""
    ahead = [0] * many
    for (one, other), sign in zip(pairs, signs):
        if sign != 0:
            ahead[other if sign > 0 else one] += 1
    lots = [tuple([index for index in range(many) if ahead[index] == place]) for place in range(many)]
    return tuple([lot for lot in lots if len(lot) > 0])
