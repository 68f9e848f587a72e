"""Stands: at which scales names can be shown together, and where they stand then."""

from glidenames.chains import greatest_chain, is_chain_of, number_of
from glidenames.errors import CanNot
from glidenames.fractions import fraction, is_fraction, is_less, plus
from glidenames.maps import TETHERS, lets
from glidenames.needs import is_under
from glidenames.pushing import held_back, pushed_on, pushers_of, sizes_by
from glidenames.sides import bans, is_ban, stands_before
from glidenames.values import is_tuple_of


def bans_of(sides, lot):
    """The BANS of two of lot."""
    return [ban for ban in bans(sides) if ban[0] in lot and ban[1] in lot]


def coming(chart, sides, lot):
    """The COMING of lot."""
    if len(lot) == 0:
        return (0, 1)
    if len(bans_of(sides, lot)) > 0:
        return None
    return number_of(chart, greatest_chain(chart, sides, lot))


def can_stand(chart, sides, lot, scale):
    """Whether lot can stand at scale."""
    return not is_under(scale, coming(chart, sides, lot))


def check_stands(chart, sides, lot, scale):
    """Raises CanNot unless lot can stand at scale."""
    if not can_stand(chart, sides, lot, scale):
        raise CanNot()


def why_not(chart, sides, lot, scale):
    """A CHAIN or a BAN of lot that keeps it from standing at scale."""
    if can_stand(chart, sides, lot, scale):
        raise CanNot()
    found = bans_of(sides, lot)
    return found[0] if len(found) > 0 else greatest_chain(chart, sides, lot)


def is_why_not(chart, sides, lot, scale, thing):
    """Whether thing is a CHAIN or a BAN of lot that keeps it from standing at scale."""
    if is_ban(sides, thing):
        return thing[0] in lot and thing[1] in lot
    return is_chain_of(chart, sides, lot, thing) and is_under(scale, number_of(chart, thing))


def least_of(chart, sides, lot, axis, scale):
    """The least x (axis 1: y) of each NAME of lot, by NAME, as FRACTIONS."""
    top, below = scale
    # All in parts of below, so that they are whole numbers.
    starts = {}
    for name in lot:
        low, before, _, _ = chart[name][TETHERS + axis]
        starts[name] = top * low - below * before
    places = pushed_on(pushers_of(chart, sides, lot, axis), sizes_by(chart, axis, below), starts)
    return {name: fraction(places[name], below) for name in lot}


def greatest_of(chart, sides, lot, axis, scale):
    """The greatest x (axis 1: y) of each NAME of lot, by NAME, as FRACTIONS."""
    top, below = scale
    ends = {}
    for name in lot:
        _, _, high, behind = chart[name][TETHERS + axis]
        ends[name] = top * high + below * behind
    places = held_back(pushers_of(chart, sides, lot, axis), sizes_by(chart, axis, below), ends)
    return {name: fraction(places[name], below) for name in lot}


def as_standing(lot, across, down):
    """The STANDING of lot by the x and the y of each NAME."""
    return tuple([(across[name], down[name]) for name in lot])


def standing(chart, sides, lot, scale):
    """A STANDING of lot at scale."""
    return least_standing(chart, sides, lot, scale)


def least_standing(chart, sides, lot, scale):
    """The least STANDING of lot at scale."""
    check_stands(chart, sides, lot, scale)
    across = least_of(chart, sides, lot, 0, scale)
    return as_standing(lot, across, least_of(chart, sides, lot, 1, scale))


def greatest_standing(chart, sides, lot, scale):
    """The greatest STANDING of lot at scale."""
    check_stands(chart, sides, lot, scale)
    across = greatest_of(chart, sides, lot, 0, scale)
    return as_standing(lot, across, greatest_of(chart, sides, lot, 1, scale))


def are_apart(chart, sides, one, place, other, there):
    """Whether one at place is as far from other, there, as one that stands before other is."""
    for axis in (0, 1):
        if stands_before(chart, sides, axis, one, other):
            return not is_less(there[axis], plus(place[axis], (chart[one][axis], 1)))
    return True


def is_standing(chart, sides, lot, scale, thing):
    """Whether thing is a STANDING of lot at scale."""
    if not is_tuple_of(thing, len(lot)):
        return False
    if not all([is_tuple_of(own, 2) and is_fraction(own[0]) and is_fraction(own[1]) for own in thing]):
        return False
    if len(bans_of(sides, lot)) > 0:
        return False
    if not all([lets(chart, name, scale, place) for name, place in zip(lot, thing)]):
        return False
    return all([
        are_apart(chart, sides, one, place, other, there)
        for one, place in zip(lot, thing) for other, there in zip(lot, thing)
    ])
