"""Maps: names with their sizes and tethers, where each may stand, and its box there."""

from glidenames.errors import CanNot, TooMuch
from glidenames.fractions import fraction, is_less, minus, plus
from glidenames.pages import tie_of
from glidenames.styles import name_of
from glidenames.values import as_tuples, check_place, is_from, is_numbers, is_tuple_of

# In a NAME the TETHER of axis 0 stands here, that of axis 1 next to it.
TETHERS = 2

MOST_FEATURES = 16


def is_tether(thing):
    """Whether thing is a TETHER."""
    return is_numbers(thing, 4) and thing[0] <= thing[2] and thing[1] + thing[3] >= 0


def is_name(thing):
    """Whether thing is a NAME."""
    if not is_tuple_of(thing, 4):
        return False
    width, height, across, down = thing
    return is_from(width, 1) and is_from(height, 1) and is_tether(across) and is_tether(down)


def is_map(thing):
    """Whether thing is a MAP."""
    return isinstance(thing, tuple) and len(thing) > 0 and all([is_name(own) for own in thing])


def map_of(page, styles):
    """The MAP with a NAME for each FEATURE."""
    if len(page) > MOST_FEATURES:
        raise TooMuch()
    if len(page) == 0 or max([feature[0] for feature in page]) >= len(styles):
        raise CanNot()
    return tuple([name_of(styles[feature[0]], feature[1], tie_of(feature)) for feature in page])


def part_of(chart, lot):
    """The MAP of the NAMES of lot."""
    if len(lot) == 0:
        raise CanNot()
    return tuple([as_tuples(chart[name]) for name in lot])


def joined(chart, other):
    """The NAMES of chart, then those of other."""
    return as_tuples(chart) + as_tuples(other)


def tether_turned(tether, size):
    """tether turned half round, of a box so large by its axis."""
    low, before, high, behind = tether
    return (0 - high, behind + size, 0 - low, before - size)


def turned(chart):
    """The MAP turned half round."""
    return tuple([
        (width, height, tether_turned(across, width), tether_turned(down, height))
        for width, height, across, down in reversed(chart)
    ])


def sides_turned(sides):
    """The SIDES of the MAP turned half round."""
    last = len(sides) - 1
    return tuple([
        tuple([sides[last - one][last - other] for one in range(other)])
        for other in range(len(sides))
    ])


def place_turned(chart, name, place):
    """The PLACE of the box turned half round."""
    check_place(name, len(chart))
    x, y = place
    return (minus((0 - chart[name][0], 1), x), minus((0 - chart[name][1], 1), y))


def tether_put(tether, far, wide, moved):
    """tether with its places times far, then moved, and what it spares times wide."""
    low, before, high, behind = tether
    return (low * far + moved, before * wide, high * far + moved, behind * wide)


def map_put(chart, far, wide, across, down):
    """chart with its places times far, then moved, and all sizes times wide."""
    return tuple([
        (own[0] * wide, own[1] * wide, tether_put(own[2], far, wide, across), tether_put(own[3], far, wide, down))
        for own in chart
    ])


def map_moved(chart, across, down):
    """chart with all places so much further east and south."""
    return map_put(chart, 1, 1, across, down)


def spread(chart, many):
    """chart with all places times many."""
    return map_put(chart, many, 1, 0, 0)


def sized(chart, many):
    """chart with all sizes times many."""
    return map_put(chart, 1, many, 0, 0)


def stretch_at(chart, name, axis, scale):
    """From where to where the TETHER of axis lets name stand at scale."""
    check_place(name, len(chart))
    low, before, high, behind = chart[name][TETHERS + axis]
    top, below = scale
    return (fraction(top * low - below * before, below), fraction(top * high + below * behind, below))


def lets(chart, name, scale, place):
    """Whether both TETHERS let name stand at place."""
    for axis in (0, 1):
        first, last = stretch_at(chart, name, axis, scale)
        if is_less(place[axis], first) or is_less(last, place[axis]):
            return False
    return True


def box_at(chart, name, place):
    """The box of name, standing at place."""
    check_place(name, len(chart))
    x, y = place
    width, height = chart[name][:2]
    return (tuple(x), tuple(y), plus(x, (width, 1)), plus(y, (height, 1)))


def do_meet(box, other):
    """Whether two boxes have an inner point in common."""
    west, north, east, south = box
    other_west, other_north, other_east, other_south = other
    across = is_less(west, other_east) and is_less(other_west, east)
    return across and is_less(north, other_south) and is_less(other_north, south)


def do_cover(chart, name, place, other, there):
    """Whether the boxes of name, at place, and of other, there, have an inner point in common."""
    return do_meet(box_at(chart, name, place), box_at(chart, other, there))
