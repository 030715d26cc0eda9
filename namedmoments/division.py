"""Division of grids without a rest.

A grid is a dict of integers other than 0 by (j, k): the sum of each integer times
t ^ k y ^ j, for some y. A grid is in lowest terms if its integers have no divisor in
common but 1 and that of the greatest (j, k) is above 0.
"""

from heapq import heappop, heappush


def grid_quotient(one, other):
    """The grid by which other must be multiplied to give one, or None; other is in lowest terms."""
    if len(one) == 0:
        return {}
    room = room_between(one, other)
    lead = max(list(other))
    tail = [(j - lead[0], k - lead[1], worth) for (j, k), worth in other.items() if (j, k) != lead]
    rest = {place: one[place] for place in one}
    heap = []
    for j, k in one:
        heappush(heap, (-j, -k))
    found = {}
    while len(heap) > 0:
        back_j, back_k = heappop(heap)
        j, k = -back_j, -back_k
        worth = rest.pop((j, k))
        if worth == 0:
            continue
        place = (j - lead[0], k - lead[1])
        if worth % other[lead] != 0 or not lies_within(place, room):
            return None
        found[place] = worth // other[lead]
        take_away(rest, heap, (j, k, found[place]), tail)
    return found


def take_away(rest, heap, part, tail):
    """Take a part (j, k, worth) times each of the tail away from the rest."""
    j, k, worth = part
    for more_j, more_k, more in tail:
        place = (j + more_j, k + more_k)
        if place not in rest:
            rest[place] = 0
            heappush(heap, (-place[0], -place[1]))
        rest[place] = rest[place] - worth * more


def room_between(one, other):
    """The least j, least k and greatest k that the quotient of two grids can have."""
    one_k = [k for _, k in one]
    other_k = [k for _, k in other]
    least_j = min(list(one))[0] - min(list(other))[0]
    return (max(0, least_j), max(0, min(one_k) - min(other_k)), max(one_k) - max(other_k))


def lies_within(place, room):
    """Whether (j, k) is in a room."""
    j, k = place
    least_j, least_k, greatest_k = room
    return j >= least_j and least_k <= k <= greatest_k
