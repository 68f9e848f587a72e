"""Pages: spots, ways and areas, each with a class and a text, and what each is tied to.

A leg is the part of a WAY from one corner to the next one.
"""

from glidenames.errors import CanNot
from glidenames.values import as_tuples, is_from, is_number, is_numbers, is_tuple_of

# The kinds of a FEATURE.
ON_SPOT = 0
ON_WAY = 1
ON_AREA = 2

MOST_SIGNS = 60


def is_spot(thing):
    """Whether thing is a SPOT."""
    return is_numbers(thing, 2)


def is_leg(start, stop):
    """Whether stop is straight east, west, north or south of start."""
    return (start[0] == stop[0]) != (start[1] == stop[1])


def is_way(thing):
    """Whether thing is a WAY."""
    if not isinstance(thing, tuple) or len(thing) < 2 or not all([is_spot(corner) for corner in thing]):
        return False
    return all([is_leg(start, stop) for start, stop in zip(thing, thing[1:])])


def is_area(thing):
    """Whether thing is an AREA."""
    return is_numbers(thing, 4) and thing[0] <= thing[2] and thing[1] <= thing[3]


def is_text(thing):
    """Whether thing is a TEXT."""
    if not isinstance(thing, str) or len(thing) > MOST_SIGNS:
        return False
    # A blank first, last or next to another one leaves an empty word beside it.
    return all([" " <= sign <= "~" for sign in thing]) and "" not in thing.split(" ")


def is_piece(thing):
    """Whether thing is a triple of a WAY and two numbers of it, the first at most the last."""
    if not is_tuple_of(thing, 3) or not is_way(thing[0]):
        return False
    way, first, last = thing
    return is_number(first) and is_number(last) and 0 <= first <= last <= way_length(way)


def is_where(kind, thing):
    """Whether thing is what stands last in a FEATURE of this kind."""
    if kind == ON_SPOT:
        return is_spot(thing)
    if kind == ON_WAY:
        return is_piece(thing)
    return kind == ON_AREA and is_area(thing)


def is_feature(thing):
    """Whether thing is a FEATURE."""
    if not is_tuple_of(thing, 4):
        return False
    group, text, kind, where = thing
    return is_from(group, 0) and is_text(text) and is_number(kind) and is_where(kind, where)


def is_page(thing):
    """Whether thing is a PAGE."""
    return isinstance(thing, tuple) and all([is_feature(own) for own in thing])


def steps_between(spot, other):
    """The fewest steps from spot to other."""
    return abs(spot[0] - other[0]) + abs(spot[1] - other[1])


def step_to(here, there):
    """The step, 1, 0 or -1, that leads from here towards there."""
    if here < there:
        return 1
    if here > there:
        return -1
    return 0


def heading(start, stop):
    """The steps in x and in y in which a leg goes."""
    return (step_to(start[0], stop[0]), step_to(start[1], stop[1]))


def legs_of(way):
    """The triples of the number at which a leg begins, and its two corners."""
    legs = []
    far = 0
    for start, stop in zip(way, way[1:]):
        legs.append((far, start, stop))
        far += steps_between(start, stop)
    return legs


def frame_of(spots):
    """The least AREA in which all spots are."""
    easts = [spot[0] for spot in spots]
    souths = [spot[1] for spot in spots]
    return (min(easts), min(souths), max(easts), max(souths))


def common_area(one, other):
    """The AREA that is in both, None if there is none."""
    west, north = max(one[0], other[0]), max(one[1], other[1])
    east, south = min(one[2], other[2]), min(one[3], other[3])
    if west > east or north > south:
        return None
    return (west, north, east, south)


def nearest_in(area, spot):
    """The SPOT in area with the fewest steps from spot: there is just one."""
    west, north, east, south = area
    return (max(west, min(east, spot[0])), max(north, min(south, spot[1])))


def way_length(way):
    """The length of way."""
    return sum([steps_between(start, stop) for start, stop in zip(way, way[1:])])


def spot_at(way, far):
    """The SPOT at far."""
    if not 0 <= far <= way_length(way):
        raise CanNot()
    begin, start, stop = [leg for leg in legs_of(way) if leg[0] <= far][-1]
    across, down = heading(start, stop)
    return (start[0] + (far - begin) * across, start[1] + (far - begin) * down)


def piece_of(way, first, last):
    """The SPOTS at first and at last and the corners between."""
    if not 0 <= first <= last <= way_length(way):
        raise CanNot()
    if first == last:
        return (spot_at(way, first),)
    between = [tuple(start) for begin, start, stop in legs_of(way) if first < begin < last]
    return (spot_at(way, first), *between, spot_at(way, last))


def turned_back(way):
    """way with the last corner first."""
    return as_tuples(way[::-1])


def plain_way(way):
    """way without the corners at which it goes on as it came."""
    corners = as_tuples(way)
    turns = [
        here
        for start, here, stop in zip(corners, corners[1:], corners[2:])
        if heading(start, here) != heading(here, stop)
    ]
    return (corners[0], *turns, corners[-1])


def nearest_on(way, spot):
    """The fewest steps from spot to way, and the least number at which it is so near."""
    tries = []
    for begin, start, stop in legs_of(way):
        near = nearest_in(frame_of([start, stop]), spot)
        tries.append((steps_between(spot, near), begin + steps_between(start, near)))
    return min(tries)


def inside(way, area):
    """The pairs of the numbers between which way is in area, as far as it is."""
    spans = []
    for begin, start, stop in legs_of(way):
        common = common_area(frame_of([start, stop]), area)
        if common is not None:
            first = begin + steps_between(start, nearest_in(common, start))
            last = begin + steps_between(start, nearest_in(common, stop))
            # Only the corner between two legs is at one number of both.
            if len(spans) > 0 and spans[-1][1] == first:
                spans[-1] = (spans[-1][0], last)
            else:
                spans.append((first, last))
    return spans


def tie_of(feature):
    """The TIE of feature."""
    kind, where = feature[2:]
    if kind == ON_SPOT:
        return frame_of([where])
    if kind == ON_WAY:
        return frame_of(piece_of(*where))
    return tuple(where)


def page_frame(page):
    """The least AREA in which all TIES are."""
    if len(page) == 0:
        raise CanNot()
    ties = [tie_of(own) for own in page]
    return frame_of([tie[:2] for tie in ties] + [tie[2:] for tie in ties])


def page_cut(page, area):
    """The PAGE of the FEATURES whose TIE has a SPOT in area."""
    return tuple([as_tuples(own) for own in page if common_area(tie_of(own), area) is not None])


def pages_joined(page, other):
    """The FEATURES of page, then those of other."""
    return as_tuples(page) + as_tuples(other)


def spot_put(spot, many, across, down):
    """spot with x and y times many, then moved."""
    return (spot[0] * many + across, spot[1] * many + down)


def where_put(kind, where, many, across, down):
    """What stands last in a FEATURE of this kind, times many, then moved."""
    if kind == ON_SPOT:
        return spot_put(where, many, across, down)
    if kind == ON_WAY:
        way, first, last = where
        corners = tuple([spot_put(corner, many, across, down) for corner in way])
        return (corners, first * many, last * many)
    return spot_put(where[:2], many, across, down) + spot_put(where[2:], many, across, down)


def page_put(page, many, across, down):
    """page times many, then moved."""
    return tuple([
        (group, text, kind, where_put(kind, where, many, across, down))
        for group, text, kind, where in page
    ])


def page_moved(page, across, down):
    """page with all places so much further east and south."""
    return page_put(page, 1, across, down)


def page_spread(page, many):
    """page with all places and numbers of WAYS times many."""
    return page_put(page, many, 0, 0)
