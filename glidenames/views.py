"""Views: what a window shows of the names, as signs and by tiles, and when along a glide it shows one."""

from glidenames.books import shown
from glidenames.errors import CanNot, TooMuch
from glidenames.fractions import fraction, greatest, is_less, least, minus, straight
from glidenames.glides import places_by_name
from glidenames.maps import box_at, do_meet
from glidenames.values import as_tuples, check_place, is_from, is_number, is_tuple_of

NOTHING = (0, 1)

MOST_CELLS = 20000
MOST_TILES = 2000

# The signs of the NAMES 0, 1, .. in a picture, of all further ones, and of a cell without one.
SIGNS = "0123456789abcdefghijklmnopqrstuvwxyz"
FURTHER = "+"
EMPTY = "."


def is_view(thing):
    """Whether thing is a VIEW."""
    if not is_tuple_of(thing, 4):
        return False
    p, q, wide, high = thing
    return is_number(p) and is_number(q) and is_from(wide, 1) and is_from(high, 1)


def half_off(scale, many, size):
    """scale times many, and half of size."""
    top, below = scale
    return fraction(2 * top * many + below * size, 2 * below)


def window(view, scale):
    """From where to where the window of view reaches at scale: (west, north, east, south)."""
    p, q, wide, high = view
    west, north = half_off(scale, p, 0 - wide), half_off(scale, q, 0 - high)
    return (west, north, half_off(scale, p, wide), half_off(scale, q, high))


def boxes_of(chart, lot, standing):
    """Pairs of the NAMES of lot and their boxes."""
    return [(name, box_at(chart, name, place)) for name, place in zip(lot, standing)]


def seen(chart, lot, standing, view, scale):
    """The set of the NAMES of lot that are seen."""
    frame = window(view, scale)
    return tuple([name for name, box in boxes_of(chart, lot, standing) if do_meet(box, frame)])


def cut_at(chart, lot, standing, view, scale, name):
    """How far the box of name reaches beyond the window: (west, north, east, south)."""
    check_place(name, len(chart))
    frame = window(view, scale)
    boxes = [box for one, box in boxes_of(chart, lot, standing) if one == name and do_meet(box, frame)]
    if len(boxes) == 0:
        raise CanNot()
    west, north, east, south = boxes[0]
    beyond = (minus(frame[0], west), minus(frame[1], north), minus(east, frame[2]), minus(south, frame[3]))
    return tuple([greatest((NOTHING, own)) for own in beyond])


def rounded_up(own):
    """The least number not below own."""
    return 0 - (0 - own[0]) // own[1]


def cells_between(start, low, high, many):
    """From which cell on, up to which one, cells have their middles from low on, below high.

    There are so many cells of size 1 from start on.
    """
    middle = (2 * start[0] + start[1], 2 * start[1])
    first, stop = [rounded_up(minus(own, middle)) for own in (low, high)]
    return (min(max(first, 0), many), min(max(stop, 0), many))


def picture(chart, lot, standing, view, scale):
    """What the window shows, a string for each row of cells."""
    _, _, wide, high = view
    if wide * high > MOST_CELLS:
        raise TooMuch()
    frame = window(view, scale)
    rows = [[EMPTY] * wide for _ in range(high)]
    for name, (west, north, east, south) in boxes_of(chart, lot, standing):
        first, stop = cells_between(frame[0], west, east, wide)
        top, end = cells_between(frame[1], north, south, high)
        sign = SIGNS[name] if name < len(SIGNS) else FURTHER
        for row in range(top, end):
            rows[row][first:stop] = [sign] * (stop - first)
    return tuple(["".join(row) for row in rows])


def least_size(middle, low, high):
    """The least number of which one half reaches from middle to low and to high."""
    far = greatest((minus(middle, low), minus(high, middle)))
    return rounded_up((2 * far[0], far[1]))


def least_view(chart, lot, standing, scale, p, q):
    """The least VIEW with p and q in whose window all boxes lie."""
    _, _, middle_x, middle_y = window((p, q, 0, 0), scale)
    boxes = [box for _, box in boxes_of(chart, lot, standing)]
    wide = [least_size(middle_x, west, east) for west, _, east, _ in boxes]
    high = [least_size(middle_y, north, south) for _, north, _, south in boxes]
    return (p, q, max(wide, default=1), max(high, default=1))


def tiles_between(low, high, size):
    """The range, as its first and what follows its last, of the TILES with points above low and below high."""
    return (low[0] // (low[1] * size), rounded_up((high[0], high[1] * size)))


def tiles_under(chart, name, place, size):
    """The set of the TILES under which name lies at place."""
    west, north, east, south = box_at(chart, name, place)
    first, stop = tiles_between(west, east, size)
    top, end = tiles_between(north, south, size)
    if (stop - first) * (end - top) > MOST_TILES:
        raise TooMuch()
    return tuple([(across, down) for across in range(first, stop) for down in range(top, end)])


def by_tiles(chart, lot, standing, size):
    """Pairs of a TILE and the set of the NAMES that lie under it, for each that has some."""
    names = {}
    for name, place in zip(lot, standing):
        for tile in tiles_under(chart, name, place, size):
            names.setdefault(tile, []).append(name)
    return [(tile, tuple(names[tile])) for tile in sorted(names)]


def gaps_at(chart, view, name, scale, place):
    """How far box and window of name, at place, reach into one another from each side: above 0 if it is seen."""
    west, north, east, south = box_at(chart, name, place)
    low_x, low_y, high_x, high_y = window(view, scale)
    return (minus(high_x, west), minus(east, low_x), minus(high_y, north), minus(south, low_y))


def are_above(gaps):
    """Whether all gaps are above 0."""
    return all([gap[0] > 0 for gap in gaps])


def span_above(low, high, first, second):
    """Between low and high: from where to where all go above 0 that go straight from first to second; or None."""
    start, stop = low, high
    for own, there in zip(first, second):
        if own[0] <= 0 and there[0] <= 0:
            return None
        if own[0] < 0:
            start = greatest((start, straight(own, there, NOTHING, low, high)))
        if there[0] < 0:
            stop = least((stop, straight(own, there, NOTHING, low, high)))
    return (start, stop) if is_less(start, stop) else None


def joined_span(spans, span, is_seen):
    """spans and, behind them, span; as one with the last one if name is seen where they meet."""
    # Nobody jumps: who is seen there has been seen right ahead of it, but for one that has just come.
    if len(spans) > 0 and is_seen:
        return spans[:-1] + [(spans[-1][0], span[1])]
    return spans + [span]


def seen_spans(chart, book, glide, view, name):
    """From where to where name is seen along glide."""
    check_place(name, len(chart))
    spans = []
    glide = as_tuples(glide)
    for low, high in zip(glide, glide[1:]):
        if name in shown(book, low[0]):
            first, second = [
                gaps_at(chart, view, name, own[0], places_by_name(book, own)[name]) for own in (low, high)
            ]
            span = span_above(low[0], high[0], first, second)
            if span is not None:
                spans = joined_span(spans, span, are_above(first))
    return spans
