"""The least slide: how slowly names can go from scale to scale, and the ring that keeps them from less."""

from glidenames.books import shown
from glidenames.errors import CanNot
from glidenames.fractions import is_less, plus, times
from glidenames.glides import events, standing_events
from glidenames.maps import TETHERS
from glidenames.rings import Course, has_step, ratio_by
from glidenames.sides import stands_before
from glidenames.values import is_numbers, is_place, is_tuple_of

AXES = (0, 1)


def lots_at(book, scales):
    """The LOTS SHOWN at scales."""
    return [shown(book, scale) for scale in scales]


def courses_of(chart, sides, book, scales):
    """The RINGS by each axis."""
    lots = lots_at(book, scales)
    return [Course(chart, sides, axis, scales, lots) for axis in AXES]


def steepest(chart, sides, book, first, last):
    """The pair of the LEAST SLIDE and a RING whose RATIO it is, None if it is 0."""
    scales = standing_events(chart, sides, book, first, last)
    slide, best = (0, 1), None
    for course in courses_of(chart, sides, book, scales):
        found = course.ring_over(slide)
        while found is not None:
            slide, best = ratio_by(chart, scales, found), found
            found = course.ring_over(slide)
    return (slide, best)


def least_slide(chart, sides, book, first, last):
    """The LEAST SLIDE."""
    slide, _ = steepest(chart, sides, book, first, last)
    return slide


def rings_over(chart, sides, book, first, last, slide):
    """RINGS whose RATIO is above slide, at most one by each axis; none only if there is none."""
    scales = standing_events(chart, sides, book, first, last)
    # Each LOT can stand, so a RING without a step asks for nothing: what asks for more has a step.
    found = [course.ring_over(slide) for course in courses_of(chart, sides, book, scales)]
    return [own for own in found if own is not None]


def can_slide(chart, sides, book, first, last, slide):
    """Whether some GLIDE has a slide of at most slide."""
    return len(rings_over(chart, sides, book, first, last, slide)) == 0


def ring_above(chart, sides, book, first, last, slide):
    """A RING whose RATIO is above slide."""
    found = rings_over(chart, sides, book, first, last, slide)
    if len(found) == 0:
        raise CanNot()
    return found[0]


def place_off(chart, offsets, name, at, scale):
    """The PLACE of name at the EVENT at, a SCALE, by its offset for each axis."""
    return tuple([
        plus(offsets[axis][(name, at)], times(scale, (chart[name][TETHERS + axis][0], 1))) for axis in AXES
    ])


def glide_within(chart, sides, book, first, last, slide):
    """The GLIDE with pairs at the EVENTS alone and a slide of at most slide that has each offset the least."""
    if not can_slide(chart, sides, book, first, last, slide):
        raise CanNot()
    scales = events(book, first, last)
    offsets = [course.offsets_within(slide) for course in courses_of(chart, sides, book, scales)]
    return tuple([
        (scale, tuple([place_off(chart, offsets, name, at, scale) for name in shown(book, scale)]))
        for at, scale in enumerate(scales)
    ])


def slowest(chart, sides, book, first, last):
    """The GLIDE with the LEAST SLIDE, pairs at the EVENTS alone, that has each offset the least."""
    slide = least_slide(chart, sides, book, first, last)
    return glide_within(chart, sides, book, first, last, slide)


def ring(chart, sides, book, first, last):
    """A RING whose RATIO is the LEAST SLIDE."""
    _, best = steepest(chart, sides, book, first, last)
    if best is None:
        raise CanNot()
    return best


def is_spot(lots, thing):
    """Whether thing is a spot of RINGS through lots."""
    if thing is None:
        return True
    return is_numbers(thing, 2) and is_place(thing[1], len(lots)) and thing[0] in lots[thing[1]]


def goes_on(chart, sides, axis, one, other):
    """Whether a RING may go from the spot one to other, unlike it."""
    if one is None or other is None:
        return True
    if one[0] == other[0]:
        return abs(one[1] - other[1]) == 1
    return one[1] == other[1] and stands_before(chart, sides, axis, one[0], other[0])


def is_ring(chart, sides, book, first, last, thing):
    """Whether thing is a RING."""
    lots = lots_at(book, standing_events(chart, sides, book, first, last))
    if not is_tuple_of(thing, 2):
        return False
    axis, spots = thing
    if not is_place(axis, len(AXES)) or not isinstance(spots, tuple) or len(spots) < 2:
        return False
    if not all([is_spot(lots, spot) for spot in spots]) or len(set(spots)) < len(spots):
        return False
    return all([
        goes_on(chart, sides, axis, one, other) for one, other in zip(spots, spots[1:] + spots[:1])
    ])


def ratio_of(chart, book, first, last, ring):
    """The RATIO of ring."""
    return ratio_by(chart, events(book, first, last), ring)


def is_ring_above(chart, sides, book, first, last, slide, thing):
    """Whether thing is a RING whose RATIO is above slide."""
    if not is_ring(chart, sides, book, first, last, thing) or not has_step(thing):
        return False
    return is_less(slide, ratio_of(chart, book, first, last, thing))
