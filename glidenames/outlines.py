"""Outlines: the least and the greatest places of names through all scales, and who pushes them there."""

from glidenames.chains import chain_between, is_chain_of, length_of, lengths_from, lengths_to
from glidenames.errors import CanNot, Unfit
from glidenames.fractions import fraction, greatest, is_less, least
from glidenames.maps import TETHERS
from glidenames.stands import check_stands, coming
from glidenames.values import check_place, is_just


def check_in_lot(chart, lot, name):
    """Raises an error unless name is one of chart and of lot."""
    check_place(name, len(chart))
    if name not in lot:
        raise Unfit()


def known_coming(chart, sides, lot):
    """The COMING of lot; CanNot() if it never can stand."""
    number = coming(chart, sides, lot)
    if number is None:
        raise CanNot()
    return number


def pushing_lines(chart, sides, lot, name, axis):
    """For each NAME with CHAINS to name: where it pushes name, slope times the number, and rest."""
    lengths = lengths_to(chart, sides, lot, axis, name)
    return [
        (one, chart[one][TETHERS + axis][0], lengths[one] - chart[one][TETHERS + axis][1]) for one in lengths
    ]


def holding_lines(chart, sides, lot, name, axis):
    """For each NAME to which CHAINS lead from name: where it holds name."""
    lengths = lengths_from(chart, sides, lot, axis, name)
    return [
        (one, chart[one][TETHERS + axis][2], chart[one][TETHERS + axis][3] - lengths[one]) for one in lengths
    ]


def line_at(line, scale):
    """What line, a NAME, a slope and a rest, tells at scale."""
    _, slope, rest = line
    top, below = scale
    return fraction(top * slope + below * rest, below)


def first_line(lines, start):
    """Of lines the one that is the greatest right behind start, of equal ones that of the least NAME."""
    most = greatest([line_at(line, start) for line in lines])
    _, _, best = max([(line[1], 0 - line[0], line) for line in lines if line_at(line, start) == most])
    return best


def next_line(lines, line):
    """The pair of the number at which line comes to be the lesser one, and the one that follows it; or None."""
    steeper = [own for own in lines if own[1] > line[1]]
    if len(steeper) == 0:
        return None
    meeting = least([fraction(line[2] - own[2], own[1] - line[1]) for own in steeper])
    return (meeting, first_line(steeper, meeting))


def upper_pieces(lines, start):
    """The pieces of the greatest that lines tell from start on."""
    pieces = []
    found = (start, first_line(lines, start))
    while found is not None:
        number, (name, slope, rest) = found
        pieces.append((number, name, slope, rest))
        found = next_line(lines, found[1])
    return tuple(pieces)


def checked_coming(chart, sides, lot, name):
    """The COMING of lot; an error if name is none of it, or lot never can stand."""
    check_in_lot(chart, lot, name)
    return known_coming(chart, sides, lot)


def outline(chart, sides, lot, name, axis):
    """The OUTLINE of name."""
    start = checked_coming(chart, sides, lot, name)
    return upper_pieces(pushing_lines(chart, sides, lot, name, axis), start)


def ceiling(chart, sides, lot, name, axis):
    """The CEILING of name."""
    start = checked_coming(chart, sides, lot, name)
    # The least of lines is the greatest of them turned over, turned over.
    lines = [(one, 0 - slope, 0 - rest) for one, slope, rest in holding_lines(chart, sides, lot, name, axis)]
    return tuple([
        (number, one, 0 - slope, 0 - rest) for number, one, slope, rest in upper_pieces(lines, start)
    ])


def is_outline(chart, sides, lot, name, axis, thing):
    """Whether thing is the OUTLINE of name."""
    return is_just(thing, outline(chart, sides, lot, name, axis))


def check_at(chart, sides, lot, name, scale):
    """Raises an error unless name is one of lot, and lot can stand at scale."""
    check_in_lot(chart, lot, name)
    check_stands(chart, sides, lot, scale)


def least_place(chart, sides, lot, name, axis, scale):
    """The least place of name at scale."""
    check_at(chart, sides, lot, name, scale)
    return greatest([line_at(line, scale) for line in pushing_lines(chart, sides, lot, name, axis)])


def greatest_place(chart, sides, lot, name, axis, scale):
    """The greatest place of name at scale."""
    check_at(chart, sides, lot, name, scale)
    return least([line_at(line, scale) for line in holding_lines(chart, sides, lot, name, axis)])


def pusher_at(chart, sides, lot, name, axis, scale):
    """The pusher of name by the last piece of its OUTLINE that has begun at scale."""
    check_at(chart, sides, lot, name, scale)
    return [
        pusher for number, pusher, _, _ in outline(chart, sides, lot, name, axis) if not is_less(scale, number)
    ][-1]


def pushed_by(chart, sides, lot, axis, scale):
    """The pusher of each NAME of lot at scale."""
    return tuple([pusher_at(chart, sides, lot, name, axis, scale) for name in lot])


def push_chain(chart, sides, lot, name, axis, scale):
    """A CHAIN by which a NAME pushes name at scale."""
    pusher = pusher_at(chart, sides, lot, name, axis, scale)
    return chain_between(chart, sides, lot, axis, pusher, name)


def is_push_chain(chart, sides, lot, name, axis, scale, thing):
    """Whether thing is a CHAIN by which a NAME pushes name at scale."""
    place = least_place(chart, sides, lot, name, axis, scale)
    if not is_chain_of(chart, sides, lot, thing) or thing[0] != axis or thing[1][-1] != name:
        return False
    pusher = thing[1][0]
    low, before, _, _ = chart[pusher][TETHERS + axis]
    return line_at((pusher, low, length_of(chart, thing) - before), scale) == place
