"""Images of grids: t is a fixed number, and all goes by the rest from a prime.

An image is a list of numbers below the prime by j, without noughts at its end.
"""

from namedmoments.dense import cut_short

PRIME = (1 << 61) - 1
PLACE = 1000003
SMALL_PRIMES = (101, 107, 113, 131, 149, 163, 179, 191, 199, 211, 227, 239)


def power_by_prime(base, many, prime):
    """The rest of a number, so many times with itself multiplied."""
    power = 1
    for digit in f"{many:b}":
        power = power * power % prime
        if digit == "1":
            power = power * base % prime
    return power


def image_of(grid):
    """The image of a grid."""
    sums = [0] * (1 + max([j for j, _ in grid]))
    powers = {}
    for (j, k), worth in grid.items():
        if k not in powers:
            powers[k] = power_by_prime(PLACE, k, PRIME)
        sums[j] = (sums[j] + worth * powers[k]) % PRIME
    return cut_short(sums)


def image_rest(one, other):
    """The rest of an image divided by another one that is not empty."""
    rest = list(one)
    many = len(other) - 1
    inverse = power_by_prime(other[-1], PRIME - 2, PRIME)
    scale = [worth * inverse % PRIME for worth in other[:many]]
    for place in range(len(rest) - 1, many - 1, -1):
        factor = rest.pop()
        if factor != 0:
            start = place - many
            above = rest[start:]
            rest[start:] = [(x - factor * y) % PRIME for x, y in zip(above, scale)]
    return cut_short(rest)


def have_coprime_images(one, other):
    """Whether the images of two grids tell that no grid with a j but 0 divides both.

    What divides both has an image that divides both images, and has as many j as this
    has, if the image of one of the two has as many j as the grid.
    """
    images = [image_of(one), image_of(other)]
    lengths = [1 + max([j for j, _ in grid]) for grid in (one, other)]
    if len(images[0]) < lengths[0] and len(images[1]) < lengths[1]:
        return False
    first, second = images
    while len(second) > 0:
        first, second = second, image_rest(first, second)
    return len(first) == 1


def leaves_a_rest(one, other):
    """Whether it is seen at a glance that a grid in lowest terms does not divide another one.

    This is so if, for some t and y and by some prime, it comes to 0 and the other one does not.
    """
    for prime in SMALL_PRIMES:
        for y in range(1, prime):
            if rest_at(other, y, prime) == 0 and rest_at(one, y, prime) != 0:
                return True
    return False


def rest_at(grid, y, prime):
    """What a grid comes to, by a prime, at a fixed t and a y that is not 0."""
    total = 0
    for (j, k), worth in grid.items():
        part = power_by_prime(PLACE, k, prime) * power_by_prime(y, j % (prime - 1), prime)
        total = (total + worth * part) % prime
    return total
