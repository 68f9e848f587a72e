"""Room and reach: how far names can go, and how near to their homes all can stand at once."""

from glidenames.chains import (
    all_ends, chain_through, ends_through, is_chain_of, length_of, names_between,
)
from glidenames.errors import CanNot
from glidenames.fractions import fraction, greatest, is_less, least, minus, over, plus, times
from glidenames.maps import TETHERS, stretch_at
from glidenames.needs import is_under, need_between, way_between
from glidenames.outlines import checked_coming, greatest_place, known_coming, least_place
from glidenames.pushing import pushed_on, pushers_of, sizes_by
from glidenames.stands import check_stands
from glidenames.values import is_tuple_of

# The words of the CAUSES of a REACH.
WORDS = ("homes", "tether", "home")


def room_at(chart, sides, lot, name, axis, scale):
    """The ROOM of name at scale."""
    high = greatest_place(chart, sides, lot, name, axis, scale)
    return minus(high, least_place(chart, sides, lot, name, axis, scale))


def room_number(chart, axis, first, last, length, room):
    """The number from which on a CHAIN so long from first to last leaves so much room; None if never."""
    asked = plus((need_between(chart, axis, first, last, length), 1), room)
    way = way_between(chart, axis, first, last)
    if asked[0] <= 0:
        return (0, 1)
    if way == 0:
        return None
    return over(asked, (way, 1))


def room_from(chart, sides, lot, name, axis, room):
    """The least number from which on the ROOM of name is room or more; None if there is none."""
    number = checked_coming(chart, sides, lot, name)
    for own in ends_through(chart, sides, lot, axis, name):
        asked = room_number(chart, *own, room)
        if is_under(number, asked):
            number = asked
    return number


def room_reason(chart, sides, lot, name, axis, room):
    """A CHAIN through name that leaves it so much room from that number on."""
    number = room_from(chart, sides, lot, name, axis, room)
    if number == known_coming(chart, sides, lot):
        raise CanNot()
    _, first, last, _ = [
        own for own in ends_through(chart, sides, lot, axis, name) if room_number(chart, *own, room) == number
    ][0]
    return chain_through(chart, sides, lot, axis, first, name, last)


def is_room_reason(chart, sides, lot, name, axis, room, thing):
    """Whether thing is a CHAIN through name that leaves it so much room from that number on."""
    number = room_from(chart, sides, lot, name, axis, room)
    if number == known_coming(chart, sides, lot):
        return False
    if not is_chain_of(chart, sides, lot, thing) or thing[0] != axis or name not in thing[1]:
        return False
    names = thing[1]
    return room_number(chart, axis, names[0], names[-1], length_of(chart, thing), room) == number


def cause_line(chart, axis, home_of, word, first, last, length):
    """What a CAUSE tells: slope times the SCALE and rest, divided by parts."""
    if word == "tether":
        low, before, _, _ = chart[first][TETHERS + axis]
        return (low - home_of[last][0], length - before - home_of[last][1], 1)
    if word == "home":
        _, _, high, behind = chart[last][TETHERS + axis]
        return (home_of[first][0] - high, home_of[first][1] + length - behind, 1)
    slope, rest = [home_of[first][part] - home_of[last][part] for part in (0, 1)]
    return (slope, rest + length, 2)


def told_at(line, scale):
    """What line, a slope, a rest and the parts, tells at scale."""
    slope, rest, parts = line
    top, below = scale
    return fraction(top * slope + below * rest, below * parts)


def causes(chart, sides, lot, axis, homes):
    """Triples of a word, the ends of longest CHAINS and what the CAUSES of both tell."""
    home_of = dict(zip(lot, homes))
    return [
        (word, (first, last), cause_line(chart, axis, home_of, word, first, last, length))
        for word in WORDS for _, first, last, length in all_ends(chart, sides, lot, axis)
    ]


def reach(chart, sides, lot, axis, homes, scale):
    """The REACH of lot at scale."""
    check_stands(chart, sides, lot, scale)
    # With the same ends the CAUSE of a longest CHAIN tells the most.
    lines = [line for _, _, line in causes(chart, sides, lot, axis, homes)]
    return greatest([(0, 1)] + [told_at(line, scale) for line in lines])


def reach_cause(chart, sides, lot, axis, homes, scale):
    """A CAUSE that tells the REACH of lot at scale."""
    far = reach(chart, sides, lot, axis, homes, scale)
    if far == (0, 1):
        raise CanNot()
    word, (first, last), _ = [
        own for own in causes(chart, sides, lot, axis, homes) if told_at(own[2], scale) == far
    ][0]
    return (word, (axis, names_between(chart, sides, lot, axis, first, last)))


def is_reach_cause(chart, sides, lot, axis, homes, scale, thing):
    """Whether thing is a CAUSE that tells the REACH of lot at scale."""
    far = reach(chart, sides, lot, axis, homes, scale)
    if far == (0, 1) or not is_tuple_of(thing, 2):
        return False
    word, chain = thing
    if word not in WORDS or not is_chain_of(chart, sides, lot, chain) or chain[0] != axis:
        return False
    first, last = chain[1][0], chain[1][-1]
    line = cause_line(chart, axis, dict(zip(lot, homes)), word, first, last, length_of(chart, chain))
    return told_at(line, scale) == far


def reach_range(chart, sides, lot, axis, homes, most):
    """The least and the greatest number at which the REACH of lot is at most most."""
    low, high = known_coming(chart, sides, lot), None
    for _, _, (slope, rest, parts) in causes(chart, sides, lot, axis, homes):
        left = minus(times((parts, 1), most), (rest, 1))
        if slope == 0 and left[0] < 0:
            raise CanNot()
        if slope < 0:
            low = greatest((low, over(left, (slope, 1))))
        if slope > 0:
            bound = over(left, (slope, 1))
            high = bound if high is None else least((high, bound))
    if high is not None and is_less(high, low):
        raise CanNot()
    return (low, high)


def nearest_places(chart, sides, lot, axis, homes, scale):
    """The least places of all NAMES of lot within their REACH at scale."""
    far = reach(chart, sides, lot, axis, homes, scale)
    below = scale[1] * far[1]
    # All in parts of below, so that they are whole numbers.
    starts = {}
    for name, (slope, rest) in zip(lot, homes):
        near = minus(plus(times(scale, (slope, 1)), (rest, 1)), far)
        first = greatest((stretch_at(chart, name, axis, scale)[0], near))
        starts[name] = first[0] * (below // first[1])
    places = pushed_on(pushers_of(chart, sides, lot, axis), sizes_by(chart, axis, below), starts)
    return tuple([fraction(places[name], below) for name in lot])
