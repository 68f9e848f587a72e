"""Chains: rows of names that need room together, and the numbers from which on they have it."""

from glidenames.errors import CanNot
from glidenames.needs import is_under, need_between, number_between, way_between
from glidenames.pushing import held_back, pushed_on, pushers_of, sizes_by
from glidenames.sides import goes_ahead, stands_before
from glidenames.values import check_place, is_place, is_tuple_of


def is_chain(chart, sides, thing):
    """Whether thing is a CHAIN."""
    if not is_tuple_of(thing, 2):
        return False
    axis, names = thing
    if not is_place(axis, 2) or not isinstance(names, tuple) or len(names) == 0:
        return False
    if not all([is_place(name, len(chart)) for name in names]):
        return False
    return all([stands_before(chart, sides, axis, one, other) for one, other in zip(names, names[1:])])


def is_chain_of(chart, sides, lot, thing):
    """Whether thing is a CHAIN of lot."""
    return is_chain(chart, sides, thing) and all([name in lot for name in thing[1]])


def length_of(chart, chain):
    """The length of chain."""
    axis, names = chain
    return sum([chart[name][axis] for name in names[:-1]])


def need_of(chart, chain):
    """The need of chain."""
    axis, names = chain
    return need_between(chart, axis, names[0], names[-1], length_of(chart, chain))


def way_of(chart, chain):
    """The way of chain."""
    axis, names = chain
    return way_between(chart, axis, names[0], names[-1])


def number_of(chart, chain):
    """The NUMBER of chain."""
    axis, names = chain
    return number_between(chart, axis, names[0], names[-1], length_of(chart, chain))


def lengths_from(chart, sides, lot, axis, name):
    """The lengths of longest CHAINS of lot from name to each NAME to which some lead."""
    return pushed_on(pushers_of(chart, sides, lot, axis), sizes_by(chart, axis, 1), {name: 0})


def lengths_to(chart, sides, lot, axis, name):
    """The lengths of longest CHAINS of lot to name from each NAME from which some lead."""
    places = held_back(pushers_of(chart, sides, lot, axis), sizes_by(chart, axis, 1), {name: 0})
    return {one: 0 - places[one] for one in places}


def all_lengths(chart, sides, lot, axis):
    """For each NAME of lot, in order, the lengths of longest CHAINS of lot from it."""
    pairs = pushers_of(chart, sides, lot, axis)
    sizes = sizes_by(chart, axis, 1)
    return [pushed_on(pairs, sizes, {name: 0}) for name in lot]


def all_ends(chart, sides, lot, axis):
    """Quadruples of axis, a first NAME, a last one and the length of a longest CHAIN of lot between."""
    return [
        (axis, first, last, length)
        for first, lengths in zip(lot, all_lengths(chart, sides, lot, axis))
        for last, length in lengths.items()
    ]


def ends_through(chart, sides, lot, axis, name):
    """The same, of the CHAINS that have name."""
    ahead_of = lengths_to(chart, sides, lot, axis, name)
    behind = lengths_from(chart, sides, lot, axis, name)
    return [(axis, first, last, ahead_of[first] + behind[last]) for first in ahead_of for last in behind]


def ends_through_both(chart, sides, lot, axis, one, other):
    """The same, of the CHAINS that have one and other, unlike it."""
    first, second = (one, other) if goes_ahead(chart, axis, one, other) else (other, one)
    between = lengths_from(chart, sides, lot, axis, first)
    if second not in between:
        return []
    ahead_of = lengths_to(chart, sides, lot, axis, first)
    behind = lengths_from(chart, sides, lot, axis, second)
    return [
        (axis, start, stop, ahead_of[start] + between[second] + behind[stop])
        for start in ahead_of for stop in behind
    ]


def longest(chart, sides, lot, axis):
    """The greatest lengths of CHAINS from each NAME of lot to each."""
    return tuple([
        tuple([lengths.get(stop, None) for stop in lot])
        for lengths in all_lengths(chart, sides, lot, axis)
    ])


def names_between(chart, sides, lot, axis, one, other):
    """The NAMES of a longest CHAIN of lot from one to other; CanNot() if there is none."""
    pairs = pushers_of(chart, sides, lot, axis)
    sizes = sizes_by(chart, axis, 1)
    lengths = pushed_on(pairs, sizes, {one: 0})
    if other not in lengths:
        raise CanNot()
    names = [other]
    for name, before in reversed(pairs):
        if name == names[-1] and name != one:
            names.append([
                own for own in before if own in lengths and lengths[own] + sizes[own] == lengths[name]
            ][0])
    return tuple(names[::-1])


def chain_between(chart, sides, lot, axis, one, other):
    """A longest CHAIN from one to other."""
    check_place(one, len(chart))
    check_place(other, len(chart))
    if one not in lot:
        raise CanNot()
    return (axis, names_between(chart, sides, lot, axis, one, other))


def chain_through(chart, sides, lot, axis, first, name, last):
    """A longest CHAIN of lot from first through name to last."""
    ahead_of = names_between(chart, sides, lot, axis, first, name)
    return (axis, ahead_of[:-1] + names_between(chart, sides, lot, axis, name, last))


def ends_with_greatest_number(chart, ends):
    """The first of ends, quadruples as above, with the greatest NUMBER."""
    best = ends[0]
    greatest = number_between(chart, *best)
    for own in ends:
        number = number_between(chart, *own)
        if is_under(greatest, number):
            best, greatest = own, number
    return best


def greatest_chain(chart, sides, lot):
    """A CHAIN of lot with the greatest NUMBER."""
    if len(lot) == 0:
        raise CanNot()
    # With the same ends no CHAIN has a greater NUMBER than a longest one.
    ends = all_ends(chart, sides, lot, 0) + all_ends(chart, sides, lot, 1)
    axis, first, last, _ = ends_with_greatest_number(chart, ends)
    return (axis, names_between(chart, sides, lot, axis, first, last))


def through(chart, sides, lot, name):
    """A CHAIN of lot that has name with the greatest NUMBER of these."""
    check_place(name, len(chart))
    if name not in lot:
        raise CanNot()
    ends = ends_through(chart, sides, lot, 0, name) + ends_through(chart, sides, lot, 1, name)
    axis, first, last, _ = ends_with_greatest_number(chart, ends)
    return chain_through(chart, sides, lot, axis, first, name, last)
