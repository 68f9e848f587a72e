"""Claims: what each must be made of, and whether it is so."""

from glidenames.books import book_of, comes_at, is_book, is_ranking, is_steady, keeps
from glidenames.fractions import is_fraction, is_less, is_scale
from glidenames.maps import is_map
from glidenames.sides import is_sides
from glidenames.slides import can_slide
from glidenames.stands import can_stand
from glidenames.values import is_place, is_set_below


def is_from_nothing(thing):
    """Whether thing is a FRACTION not below 0."""
    return is_fraction(thing) and thing[0] >= 0


def is_stands(chart, thing):
    """Whether thing is what "stands" tells of chart: a LOT and a SCALE."""
    return len(thing) == 2 and is_set_below(thing[0], len(chart)) and is_scale(thing[1])


def is_comes(chart, thing):
    """Whether thing is what "comes" tells of chart: a RANKING, a NAME and a number or None."""
    if len(thing) != 3 or not is_ranking(chart, thing[0]) or not is_place(thing[1], len(chart)):
        return False
    return thing[2] is None or is_from_nothing(thing[2])


def is_steadies(chart, thing):
    """Whether thing is what "steady" tells of chart: a RANKING and a BOOK."""
    return len(thing) == 2 and is_ranking(chart, thing[0]) and is_book(chart, thing[1])


def is_keeps(chart, thing):
    """Whether thing is what "keeps" tells of chart: a BOOK."""
    return len(thing) == 1 and is_book(chart, thing[0])


def is_alike(chart, thing):
    """Whether thing is what "alike" tells of chart: two RANKINGS."""
    return len(thing) == 2 and is_ranking(chart, thing[0]) and is_ranking(chart, thing[1])


def is_slides(chart, thing):
    """Whether thing is what "slides" tells of chart: a BOOK, two SCALES and a slide."""
    if len(thing) != 4 or not is_book(chart, thing[0]) or not is_scale(thing[1]) or not is_scale(thing[2]):
        return False
    return is_less(thing[1], thing[2]) and is_from_nothing(thing[3])


# By the word of a CLAIM: whether what stands behind chart and sides is as it must be.
FORMS = {
    "stands": is_stands,
    "comes": is_comes,
    "steady": is_steadies,
    "keeps": is_keeps,
    "alike": is_alike,
    "slides": is_slides,
}


def is_formed(thing):
    """Whether thing is a CLAIM."""
    if not isinstance(thing, tuple) or len(thing) < 3:
        return False
    word, chart, sides = thing[:3]
    if not isinstance(word, str) or word not in FORMS or not is_map(chart) or not is_sides(chart, sides):
        return False
    is_rest = FORMS[word]
    return is_rest(chart, thing[3:])


def so_comes(chart, sides, ranking, name, number):
    """Whether name comes at number, never for None."""
    return comes_at(chart, sides, ranking, name) == number


def so_alike(chart, sides, one, other):
    """Whether one and other have one steady BOOK."""
    return book_of(chart, sides, one) == book_of(chart, sides, other)


def is_true(claim):
    """Whether claim is so."""
    word, rest = claim[0], claim[1:]
    if word == "stands":
        return can_stand(*rest)
    if word == "comes":
        return so_comes(*rest)
    if word == "steady":
        return is_steady(*rest)
    if word == "keeps":
        return keeps(*rest)
    if word == "alike":
        return so_alike(*rest)
    return can_slide(*rest)
