"""Multiples of two grids that come to a grid without y."""

from namedmoments.division import grid_quotient
from namedmoments.grids import grid_difference, grid_product, line_content, lines_of
from namedmoments.lines import content_of, step_of
from namedmoments.ratios import integer_power
from namedmoments.resultants import resultant_and_factor

WHOLE = (0, 0)


def grid_multiples(one, other):
    """A triple (a, b, r): a times one and b times other are r, not empty, with no j but 0.

    The grids are in lowest terms, with least j 0, and nothing but 1 divides both.
    """
    contents = []
    rests = []
    for grid in (one, other):
        line = line_content(list(lines_of(grid).values()))
        contents.append({(0, k): worth for k, worth in line.items()})
        rests.append(grid_quotient(grid, contents[-1]))
    if len(rests[0]) == 1:
        return ({WHOLE: 1}, {}, contents[0])
    if len(rests[1]) == 1:
        return ({}, {WHOLE: 1}, contents[1])
    a, b, r = ordered_multiples(rests[0], rests[1])
    both = grid_product(contents[0], contents[1])
    return (grid_product(a, contents[1]), grid_product(b, contents[0]), grid_product(r, both))


def ordered_multiples(one, other):
    """The same for grids that no line in t divides, with a j above 0 in each."""
    if max([j for j, _ in one]) < max([j for j, _ in other]):
        b, a, r = ordered_multiples(other, one)
        return (a, b, r)
    places = list(one) + list(other)
    steps = (step_of([j for j, _ in places]), step_of([k for _, k in places]))
    first, second = [{(j // steps[0], k // steps[1]): grid[(j, k)] for j, k in grid} for grid in (one, other)]
    found = []
    for grid in interpolated(first, second):
        found.append({(j * steps[0], k * steps[1]): worth for (j, k), worth in grid.items()})
    a, b, r = found
    return (a, b, r)


def interpolated(one, other):
    """The same, one having at least as great a j as other, from what they are worth at several t."""
    points = []
    rows = [[] for _ in range(max([j for j, _ in other]) + 1)]
    point = 0
    while True:
        worths = worths_at(one, other, point)
        if worths is not None:
            fresh = [next_difference(points, row, point, worth) for row, worth in zip(rows, worths)]
            if not any(fresh):
                triple = triple_of(one, other, [powers_of(points, row) for row in rows])
                if triple is not None:
                    return triple
            points.append(point)
            rows = [row + [worth] for row, worth in zip(rows, fresh)]
        point = -point if point > 0 else 1 - point


def worths_at(one, other, point):
    """The factor of one and, last, the resultant, at a t at which they tell what they are, or None."""
    first = list_at(one, point)
    second = list_at(other, point)
    if first[-1] == 0 or second[-1] == 0:
        return None
    found = resultant_and_factor(first, second)
    if found is None:
        return None
    resultant, factor = found
    many = len(second) - 1
    return (factor + [0] * many)[:many] + [resultant]


def list_at(grid, point):
    """The list of what is beside each y ^ j of a grid where t is an integer."""
    worths = [0] * (1 + max([j for j, _ in grid]))
    for (j, k), worth in grid.items():
        worths[j] = worths[j] + worth * integer_power(point, k)
    return worths


def next_difference(points, row, point, worth):
    """The divided difference that a further point brings to a row of those at the points so far."""
    for place, difference in zip(points, row):
        worth = (worth - difference) // (point - place)
    return worth


def powers_of(points, row):
    """The list, by power of t, of the polynomial that a row of divided differences tells."""
    worths = []
    for place, worth in zip(list(reversed(points)), list(reversed(row))):
        raised = [0] + worths
        for k, below in enumerate(worths):
            raised[k] = raised[k] - place * below
        raised[0] = raised[0] + worth
        worths = raised
    return worths


def triple_of(one, other, rows):
    """The triple of grids that rows of the factor and, last, the resultant tell, or None."""
    r = {(0, k): worth for k, worth in enumerate(rows[-1]) if worth != 0}
    a = {(j, k): worth for j, row in enumerate(rows[:-1]) for k, worth in enumerate(row) if worth != 0}
    b = grid_quotient(grid_difference(r, grid_product(a, one)), other)
    if b is None:
        return None
    content = content_of(list(a.values()) + list(b.values()) + list(r.values()))
    a, b, r = [{place: worth // content for place, worth in grid.items()} for grid in (a, b, r)]
    return (a, b, r)
