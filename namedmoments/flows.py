"""Flows of vessels that empty into one another [7.1] [7.2]."""

from namedmoments.curves import area, gathered, is_rate, plus, scaled, slope, times
from namedmoments.errors import BadFlow, NoPipe, NoVessel
from namedmoments.moments import at, compare
from namedmoments.ratios import NIL, UNIT, added, is_fraction, is_integer, is_number, negated
from namedmoments.rows import Row

MOST_VESSELS = 5
MOST_PIPES = 8
OUT = -1


class Flow:
    """What is in some vessels at 0, and the pipes (one, other, rate) through which it flows."""

    def __init__(self, starts, pipes):
        check_flow(starts, pipes)
        self.starts = starts
        self.pipes = pipes

    def __eq__(self, other):
        return isinstance(other, Flow) and self.starts == other.starts and self.pipes == other.pipes


def check_flow(starts, pipes):
    """Raise BadFlow unless these make a flow."""
    if not are_starts(starts):
        raise BadFlow("starts")
    if not isinstance(pipes, tuple) or len(pipes) > MOST_PIPES:
        raise BadFlow("pipes")
    for index, pipe in enumerate(pipes):
        if not is_pipe(pipe, len(starts)):
            raise BadFlow(index)
    if len(downward(len(starts), pipes)) < len(starts):
        raise BadFlow("rings")
    if not all([is_rate(rate_out_of(pipes, vessel)) for vessel in range(len(starts))]):
        raise BadFlow("rates")


def are_starts(thing):
    """Whether a thing is a tuple of so many fractions from 0 on as there may be vessels."""
    if not isinstance(thing, tuple) or not 1 <= len(thing) <= MOST_VESSELS:
        return False
    return all([is_fraction(start) and start[0] >= 0 for start in thing])


def is_pipe(thing, many):
    """Whether a thing is a pipe between two of so many vessels, or from one of them out."""
    if not isinstance(thing, tuple) or len(thing) != 3:
        return False
    one, other, rate = thing
    if not is_number(one) or one >= many or not is_integer(other) or not OUT <= other < many:
        return False
    return one != other and is_rate(rate) and rate[0] > 0


def rate_out_of(pipes, vessel):
    """The sum of the rates of the pipes that leave a vessel."""
    total = NIL
    for one, _, rate in pipes:
        if one == vessel:
            total = added(total, rate)
    return total


def downward(many, pipes):
    """The list of so many vessels, each behind all that flow into it, without those that a ring leads to."""
    found = []
    while True:
        waiting = [other for one, other, _ in pipes if one not in found]
        more = [vessel for vessel in range(many) if vessel not in found and vessel not in waiting]
        if len(more) == 0:
            return found
        found.extend(more)


def raised(q):
    """The curve e ^ (q t)."""
    return gathered([(UNIT, 0, q)])


def contents(flow):
    """A dict of the contents of all vessels."""
    found = {}
    for vessel in downward(len(flow.starts), flow.pipes):
        coming = gathered([])
        for one, other, rate in flow.pipes:
            if other == vessel:
                coming = plus(coming, scaled(found[one], rate))
        # what is in it, times e ^ (out t), changes by what comes alone, times e ^ (out t)
        out = rate_out_of(flow.pipes, vessel)
        gone = plus(gathered([(flow.starts[vessel], 0, NIL)]), area(times(coming, raised(out))))
        found[vessel] = times(gone, raised(negated(out)))
    return found


def check_vessel(flow, thing):
    """Raise NoVessel unless a thing is the number of a vessel."""
    if not is_number(thing) or thing >= len(flow.starts):
        raise NoVessel()


def content(flow, vessel):
    """The curve of what is in a vessel."""
    check_vessel(flow, vessel)
    return contents(flow)[vessel]


def passed(flow, pipe):
    """The curve of what has gone through a pipe since 0."""
    if not is_number(pipe) or pipe >= len(flow.pipes):
        raise NoPipe()
    one, _, rate = flow.pipes[pipe]
    return area(scaled(contents(flow)[one], rate))


def fullest(flow, vessel):
    """The ascending list of Moments behind 0 at which the slope of a content changes from above to below 0."""
    steepness = slope(content(flow, vessel))
    if len(steepness.terms) == 0:
        return []
    row = Row((steepness,))
    origin = at(NIL)
    found = []
    for index, moment in enumerate(row.moments()):
        around = (row.signs(2 * index), row.signs(2 * index + 2))
        if around == ((1,), (-1,)) and compare(moment, origin) > 0:
            found.append(moment)
    return found


def since_when(flow, one, other):
    """The least Moment from 0 on behind which there is always more in one vessel than in the other, or None."""
    check_vessel(flow, one)
    check_vessel(flow, other)
    lead = plus(content(flow, one), scaled(content(flow, other), (-1, 1)))
    if len(lead.terms) == 0:
        return None
    row = Row((lead,))
    moments = row.moments()
    if row.signs(2 * len(moments)) != (1,):
        return None
    origin = at(NIL)
    if len(moments) > 0 and compare(moments[-1], origin) > 0:
        return moments[-1]
    return origin
