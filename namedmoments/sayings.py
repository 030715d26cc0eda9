"""Sayings about moments, and whether they are so [6.1] [6.2]."""

from namedmoments.checks import check_bottoms
from namedmoments.errors import NoCurves, NoLetter, NoLetters, NoNumber, NoSaying
from namedmoments.names import is_name
from namedmoments.places import ascending
from namedmoments.ratios import is_integer, is_number
from namedmoments.rows import MOST_CURVES, are_curves, has_nought, marked_places, table_of
from namedmoments.telling import Teller

MOST_DEEP = 8
MOST_MEANT = 4
# what is no saying counts as more all and some than a saying may have
NO_SAYING = 5


def is_saying(many, letters, thing):
    """Whether a thing is a saying over so many curves with no open letters but these."""
    if not is_number(many) or many > MOST_CURVES:
        raise NoNumber()
    if not are_letters(letters):
        raise NoLetters()
    return is_saying_over(list(range(many)), letters, thing)


def are_letters(thing):
    """Whether a thing is a tuple of unlike names."""
    if not isinstance(thing, tuple) or not all([is_name(letter) for letter in thing]):
        return False
    return len(set(thing)) == len(thing)


def is_saying_over(subjects, letters, thing):
    """Whether a thing is a saying, a subject standing for each curve, with no open letters but these."""
    return meant_in(subjects, letters, thing, 1) <= MOST_MEANT


def meant_in(subjects, letters, thing, deep):
    """How many all and some are in a saying that is so deep in another one; NO_SAYING or more for none."""
    if deep > MOST_DEEP or not isinstance(thing, tuple) or not 2 <= len(thing) <= 4 or not isinstance(thing[0], str):
        return NO_SAYING
    word = thing[0]
    if word == "not" and len(thing) == 2:
        return meant_in(subjects, letters, thing[1], deep + 1)
    if word == "is" and len(thing) == 4:
        return 0 if is_subject(thing[1], subjects) and is_open(thing[2], letters) and is_sign(thing[3]) else NO_SAYING
    if len(thing) != 3:
        return NO_SAYING
    if word in ("ahead", "same"):
        return 0 if is_open(thing[1], letters) and is_open(thing[2], letters) else NO_SAYING
    if word in ("and", "or"):
        return sum([meant_in(subjects, letters, inner, deep + 1) for inner in thing[1:]])
    if word in ("all", "some") and is_name(thing[1]):
        return 1 + meant_in(subjects, (*letters, thing[1]), thing[2], deep + 1)
    return NO_SAYING


def is_subject(thing, subjects):
    """Whether a thing, no flag, is one of some subjects."""
    return (is_integer(thing) or isinstance(thing, str)) and thing in subjects


def is_open(thing, letters):
    """Whether a thing is one of some letters."""
    return isinstance(thing, str) and thing in letters


def is_sign(thing):
    """Whether a thing is a sign."""
    return is_integer(thing) and thing in (-1, 0, 1)


def decided(curves, saying):
    """Whether a saying without open letters is so."""
    if not are_curves(curves, 0, MOST_CURVES) or has_nought(curves):
        raise NoCurves()
    if not is_saying(len(curves), (), saying):
        raise NoSaying()
    check_bottoms(list(curves))
    spots, _ = line_of(table_of(curves, ascending(marked_places(curves))), subjects_in(saying))
    return Teller(spots).holds(saying, {}, 1)


def when(curves, saying, letter):
    """The list of the numbers of the cells in which a saying is so of a letter, the only open one."""
    if not are_curves(curves, 1, MOST_CURVES) or has_nought(curves):
        raise NoCurves()
    if not is_name(letter):
        raise NoLetter()
    if not is_saying(len(curves), (letter,), saying):
        raise NoSaying()
    check_bottoms(list(curves))
    spots, homes = line_of(table_of(curves, ascending(marked_places(curves))), subjects_in(saying))
    teller = Teller(spots)
    return [cell for cell, spot in enumerate(homes) if teller.holds(saying, {letter: (spot, 1)}, 1)]


def subjects_in(saying):
    """The ascending list of what stands for curves in a saying."""
    if saying[0] == "is":
        return [saying[1]]
    inner = [subjects_in(part) for part in saying[1:] if isinstance(part, tuple)]
    return sorted(set([subject for found in inner for subject in found]))


def line_of(table, subjects):
    """A pair: the spots of the line, those moments left out at which none of these curves is nought.

    And, for each cell of the table, the number of its spot.
    """
    spots = [table[0]]
    homes = [0]
    for cell in range(1, len(table), 2):
        if any([table[cell][index] == 0 for index in subjects]):
            spots.extend(table[cell : cell + 2])
            homes.extend([len(spots) - 2, len(spots) - 1])
        else:
            homes.extend([homes[-1], homes[-1]])
    return (spots, homes)
