"""Reading the text of a curve [1.3]."""

from namedmoments.curves import MOST_TERMS, Curve, is_term, stands_behind
from namedmoments.errors import BadText
from namedmoments.ratios import NIL, UNIT, negated
from namedmoments.texts import term_text

MOST_DIGITS = 30
POWERS = {"t": 1, "t^2": 2, "t^3": 3}


def read_curve(text):
    """The curve with this text."""
    if not isinstance(text, str):
        raise BadText(-1)
    if text == "0":
        return Curve(())
    terms = []
    for index, piece in enumerate(pieces_of(text)):
        term = signed_term(piece, index == 0)
        if term is None or index == MOST_TERMS:
            raise BadText(index)
        if index > 0 and not stands_behind(term, terms[index - 1]):
            raise BadText(index)
        terms.append(term)
    return Curve(tuple(terms))


def pieces_of(text):
    """The list of the pieces of a text, each with the mark that it was cut at ahead of it."""
    pieces = []
    start = 0
    mark = "+"
    place = 0
    while place < len(text):
        if text[place:place + 3] in (" + ", " - "):
            pieces.append(mark + text[start:place])
            mark = text[place + 1]
            place += 3
            start = place
        else:
            place += 1
    pieces.append(mark + text[start:])
    return pieces


def signed_term(piece, first):
    """The term that a piece with its mark tells, or None; the first one may have a minus of its own."""
    mark = piece[0]
    body = piece[1:]
    if first and body.startswith("-"):
        mark = "-"
        body = body[1:]
    term = bare_term(body)
    if term is None or mark == "+":
        return term
    c, k, q = term
    return (negated(c), k, q)


def bare_term(body):
    """The term of which a string is the text without a sign, or None."""
    words = body.split(" ")
    c = UNIT
    k = 0
    q = NIL
    if words[0][:1].isdigit():
        c = read_size(words.pop(0))
    if len(words) > 0 and words[0] in POWERS:
        k = POWERS[words.pop(0)]
    if len(words) > 0 and words[0].startswith("e^(") and words[0].endswith(")"):
        q = read_rate(words.pop(0)[3:-1])
    if len(words) > 0 or not is_term((c, k, q)):
        return None
    # a term is written in one way alone, so whatever else told the same is sorted out here
    return (c, k, q) if term_text((c, k, q)) == body else None


def read_rate(text):
    """The fraction that a string with perhaps a minus tells, or None."""
    if not text.startswith("-"):
        return read_size(text)
    size = read_size(text[1:])
    return None if size is None else negated(size)


def read_size(text):
    """The pair of what stands on both sides of a bar, 1 where there is none, or None."""
    top, bar, bottom = text.partition("/")
    if bar == "":
        bottom = "1"
    if not has_few_digits(top) or not has_few_digits(bottom):
        return None
    return (int(top), int(bottom))


def has_few_digits(text):
    """Whether a string is of digits alone, and of as many as c may have."""
    return text.isdigit() and text.isascii() and len(text) <= MOST_DIGITS
