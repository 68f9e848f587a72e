"""Sides: for each two names whether they stand side by side, one above the other, or never together."""

from glidenames.errors import CanNot, Unfit
from glidenames.maps import TETHERS
from glidenames.needs import is_under, number_between
from glidenames.values import as_tuples, check_place, is_numbers, is_place, is_tuple_of

# The SIDE of two NAMES that are never shown together; those below it are the two axes.
BAN = 2


def is_sides(chart, thing):
    """Whether thing is SIDES of chart."""
    if not is_tuple_of(thing, len(chart)):
        return False
    return all([
        is_tuple_of(own, name) and all([is_place(side, BAN + 1) for side in own])
        for name, own in enumerate(thing)
    ])


def check_two(one, other, many):
    """Raises an error unless one and other are two of so many NAMES."""
    check_place(one, many)
    check_place(other, many)
    if one == other:
        raise Unfit()


def order_key(chart, axis, name):
    """What is less for whoever goes ahead by axis."""
    low, _, high, _ = chart[name][TETHERS + axis]
    return (low + high, name)


def goes_ahead(chart, axis, one, other):
    """Whether one goes ahead of other, of whatever two numbers of NAMES."""
    return order_key(chart, axis, one) < order_key(chart, axis, other)


def ahead(chart, axis, one, other):
    """Whether one goes ahead of other by axis."""
    check_two(one, other, len(chart))
    return goes_ahead(chart, axis, one, other)


def order_of(chart, axis):
    """All NAMES, each ahead of all behind it."""
    keys = sorted([order_key(chart, axis, name) for name in range(len(chart))])
    return tuple([name for middle, name in keys])


def side_between(sides, one, other):
    """What sides tell of two NAMES."""
    return sides[max(one, other)][min(one, other)]


def side_of(sides, one, other):
    """What sides tell of one and other."""
    check_two(one, other, len(sides))
    return side_between(sides, one, other)


def stands_before(chart, sides, axis, one, other):
    """Whether one stands left of other (axis 1: above it), of whatever two numbers of NAMES."""
    # Of one NAME alone SIDES tell nothing; it does not go ahead of itself.
    return goes_ahead(chart, axis, one, other) and side_between(sides, one, other) == axis


def stands_left(chart, sides, one, other):
    """Whether one stands left of other."""
    check_two(one, other, len(chart))
    return stands_before(chart, sides, 0, one, other)


def stands_above(chart, sides, one, other):
    """Whether one stands above other."""
    check_two(one, other, len(chart))
    return stands_before(chart, sides, 1, one, other)


def bans(sides):
    """The set of the BANS."""
    many = len(sides)
    return tuple([
        (one, other) for one in range(many) for other in range(one + 1, many) if sides[other][one] == BAN
    ])


def is_ban(sides, thing):
    """Whether thing is a BAN."""
    if not is_numbers(thing, 2):
        return False
    one, other = thing
    return is_place(one, other) and other < len(sides) and sides[other][one] == BAN


def pair_number(chart, axis, one, other):
    """The NUMBER of the CHAIN of one and other by axis."""
    check_two(one, other, len(chart))
    if goes_ahead(chart, axis, one, other):
        return number_between(chart, axis, one, other, chart[one][axis])
    return number_between(chart, axis, other, one, chart[other][axis])


def rule_side(chart, one, other):
    """The SIDE by which one and other come together the soonest."""
    across = pair_number(chart, 0, one, other)
    down = pair_number(chart, 1, one, other)
    if across is None and down is None:
        return BAN
    return 1 if is_under(down, across) else 0


def by_rule(chart):
    """SIDES by which each two NAMES by themselves come together the soonest."""
    return tuple([
        tuple([rule_side(chart, one, other) for one in range(other)]) for other in range(len(chart))
    ])


def all_beside(chart):
    """SIDES by which all NAMES stand side by side."""
    return tuple([(0,) * name for name in range(len(chart))])


def with_side(sides, one, other, side):
    """SIDES with this one for one and other."""
    check_two(one, other, len(sides))
    rows = [list(own) for own in sides]
    rows[max(one, other)][min(one, other)] = side
    return as_tuples(rows)


def part_sides(sides, lot):
    """SIDES of the NAMES of lot, numbered from 0."""
    return tuple([
        tuple([side_between(sides, one, other) for one in lot[:place]]) for place, other in enumerate(lot)
    ])


def is_row(sides, axis, lot):
    """Whether sides tell axis of each two of lot."""
    return all([side == axis for own in part_sides(sides, lot) for side in own])


def in_row(chart, sides, axis, lot):
    """The NAMES of lot, each left of all behind it (axis 1: above)."""
    if not is_row(sides, axis, lot):
        raise CanNot()
    return tuple([name for name in order_of(chart, axis) if name in lot])
