"""Glides: how all names go from scale to scale, on straight ways between standings."""

from glidenames.books import arrivals, shown
from glidenames.errors import CanNot, Unfit
from glidenames.fractions import greatest, is_less, is_scale, minus, over, straight, times
from glidenames.maps import TETHERS
from glidenames.stands import can_stand, is_standing, least_standing
from glidenames.values import as_tuples, check_place, is_tuple_of


def are_between(book, low, high):
    """The ARRIVALS above low and below high."""
    return tuple([own for own in arrivals(book) if is_less(low, own) and is_less(own, high)])


def is_next(chart, sides, book, pair, ahead):
    """Whether pair, a SCALE and anything, may follow in a GLIDE on ahead; None for the first pair."""
    scale, thing = pair
    if ahead is not None and (not is_less(ahead[0], scale) or len(are_between(book, ahead[0], scale)) > 0):
        return False
    return is_standing(chart, sides, shown(book, scale), scale, thing)


def fall_of(chart, sides, book, pairs):
    """The number of the first of pairs with which they are no GLIDE, None if there is none."""
    ahead = None
    for number, pair in enumerate(as_tuples(pairs)):
        if not is_next(chart, sides, book, pair, ahead):
            return number
        ahead = pair
    return None


def is_glide(chart, sides, book, thing):
    """Whether thing is a GLIDE of book."""
    if not isinstance(thing, tuple) or len(thing) < 2:
        return False
    if not all([is_tuple_of(pair, 2) and is_scale(pair[0]) for pair in thing]):
        return False
    ahead_of = (None,) + thing[:-1]
    return all([is_next(chart, sides, book, pair, ahead) for pair, ahead in zip(thing, ahead_of)])


def events(book, first, last):
    """The EVENTS of book from first to last."""
    if not is_less(first, last):
        raise Unfit()
    return (tuple(first),) + are_between(book, first, last) + (tuple(last),)


def standing_events(chart, sides, book, first, last):
    """The EVENTS; Unfit() if a LOT SHOWN at one of them can not stand."""
    scales = events(book, first, last)
    if not all([can_stand(chart, sides, shown(book, scale), scale) for scale in scales]):
        raise Unfit()
    return scales


def glide(chart, sides, book, first, last):
    """The GLIDE with the least standing at each EVENT."""
    return tuple([
        (scale, least_standing(chart, sides, shown(book, scale), scale))
        for scale in standing_events(chart, sides, book, first, last)
    ])


def places_by_name(book, pair):
    """The PLACES of the NAMES SHOWN at a pair of a GLIDE."""
    scale, standing = pair
    return dict(zip(shown(book, scale), standing))


def gone_straight(low, high, scale, first, second):
    """The PLACE at scale on the straight way from first at low to second at high."""
    return tuple([straight(low, high, scale, first[axis], second[axis]) for axis in (0, 1)])


def standing_at(book, glide, scale):
    """What glide tells at scale."""
    glide = as_tuples(glide)
    if is_less(scale, glide[0][0]) or is_less(glide[-1][0], scale):
        raise CanNot()
    for pair in glide:
        if pair[0] == tuple(scale):
            return pair[1]
    at = len([pair for pair in glide if is_less(pair[0], scale)])
    low, high = glide[at - 1], glide[at]
    there = places_by_name(book, high)
    return tuple([
        gone_straight(low[0], high[0], scale, place, there[name])
        for name, place in places_by_name(book, low).items()
    ])


def place_at(book, glide, name, scale):
    """The PLACE of name by glide at scale."""
    check_place(name, len(book))
    standing = standing_at(book, glide, scale)
    places = places_by_name(book, (scale, standing))
    if name not in places:
        raise CanNot()
    return places[name]


def slide_between(chart, low, high, name, axis, place, there):
    """The slide of name by axis on its straight way from place at low to there at high."""
    far = minus(there[axis], place[axis])
    run = minus(high, low)
    own = minus(far, times(run, (chart[name][TETHERS + axis][0], 1)))
    return over((abs(own[0]), own[1]), run)


def slides_told(chart, book, glide):
    """Pairs of each slide of glide and where it has it: the number of a pair, a NAME and an axis, ascending."""
    told = []
    for number, (low, high) in enumerate(zip(glide, glide[1:])):
        there = places_by_name(book, high)
        for name, place in places_by_name(book, low).items():
            for axis in (0, 1):
                slide = slide_between(chart, low[0], high[0], name, axis, place, there[name])
                told.append((slide, (number, name, axis)))
    return told


def slide_of(chart, book, glide):
    """The slide of glide."""
    return greatest([(0, 1)] + [slide for slide, _ in slides_told(chart, book, glide)])


def is_glide_within(chart, sides, book, first, last, slide, thing):
    """Whether thing is a GLIDE from first to last whose slide is slide or less."""
    if not is_glide(chart, sides, book, thing) or thing[0][0] != first or thing[-1][0] != last:
        return False
    return not is_less(slide, slide_of(chart, book, thing))


def slidest(chart, book, glide):
    """Where glide has its slide first: the number of a pair, a NAME and an axis."""
    most = slide_of(chart, book, glide)
    if most == (0, 1):
        raise CanNot()
    return [spot for slide, spot in slides_told(chart, book, glide) if slide == most][0]


def stopped(book, glide, scale):
    """glide with a pair at scale."""
    pair = (tuple(scale), standing_at(book, glide, scale))
    glide = as_tuples(glide)
    at = len([own for own in glide if is_less(own[0], scale)])
    return glide if glide[at] == pair else glide[:at] + (pair,) + glide[at:]


def straightened(book, glide):
    """The GLIDE of the first and the last pair of glide and those at ARRIVALS."""
    glide = as_tuples(glide)
    stops = arrivals(book)
    return glide[:1] + tuple([pair for pair in glide[1:-1] if pair[0] in stops]) + glide[-1:]
