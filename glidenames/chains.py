"""Chains: rows of names that need room together, and the numbers from which on they have it."""

from glidenames.errors import CanNot
from glidenames.needs import is_under, need_between, number_between, way_between
from glidenames.sides import order_of, stands_before
from glidenames.values import check_place, is_place, is_tuple_of


def is_chain(chart, sides, thing):
    """Whether thing is a CHAIN."""
    if not is_tuple_of(thing, 2):
        return False
    axis, names = thing
    if not is_place(axis, 2) or not isinstance(names, tuple) or len(names) == 0:
        return False
    if not all([is_place(name, len(chart)) for name in names]):
        return False
    return all([stands_before(chart, sides, axis, one, other) for one, other in zip(names, names[1:])])


def length_of(chart, chain):
    """The length of chain."""
    axis, names = chain
    return sum([chart[name][axis] for name in names[:-1]])


def need_of(chart, chain):
    """The need of chain."""
    axis, names = chain
    return need_between(chart, axis, names[0], names[-1], length_of(chart, chain))


def way_of(chart, chain):
    """The way of chain."""
    axis, names = chain
    return way_between(chart, axis, names[0], names[-1])


def number_of(chart, chain):
    """The NUMBER of chain."""
    axis, names = chain
    return number_between(chart, axis, names[0], names[-1], length_of(chart, chain))


def longest_from(chart, sides, lot, axis, start):
    """For each NAME to which CHAINS of lot lead from start: the length and the NAMES of a longest one."""
    found = {start: (0, (start,))}
    # Whoever stands before a NAME goes ahead of it, so all CHAINS to it are known by its turn.
    for own in [name for name in order_of(chart, axis) if name in lot]:
        tries = [
            (length + chart[last][axis], names + (own,))
            for last, (length, names) in found.items()
            if stands_before(chart, sides, axis, last, own)
        ]
        if len(tries) > 0:
            found[own] = max(tries)
    return found


def longest(chart, sides, lot, axis):
    """The greatest lengths of CHAINS from each NAME of lot to each."""
    table = []
    for start in lot:
        found = longest_from(chart, sides, lot, axis, start)
        table.append(tuple([found[stop][0] if stop in found else None for stop in lot]))
    return tuple(table)


def chain_between(chart, sides, lot, axis, one, other):
    """A longest CHAIN from one to other."""
    check_place(one, len(chart))
    check_place(other, len(chart))
    if one not in lot:
        raise CanNot()
    found = longest_from(chart, sides, lot, axis, one)
    if other not in found:
        raise CanNot()
    return (axis, found[other][1])


def with_greatest_number(chart, chains):
    """The first of chains with the greatest NUMBER."""
    best = chains[0]
    for own in chains:
        if is_under(number_of(chart, best), number_of(chart, own)):
            best = own
    return best


def greatest_chain(chart, sides, lot):
    """A CHAIN of lot with the greatest NUMBER."""
    if len(lot) == 0:
        raise CanNot()
    # With the same ends no CHAIN has a greater NUMBER than a longest one.
    chains = []
    for axis in (0, 1):
        for start in lot:
            found = longest_from(chart, sides, lot, axis, start)
            chains.extend([(axis, names) for length, names in found.values()])
    return with_greatest_number(chart, chains)


def through(chart, sides, lot, name):
    """A CHAIN of lot that has name with the greatest NUMBER of these."""
    check_place(name, len(chart))
    if name not in lot:
        raise CanNot()
    chains = []
    for axis in (0, 1):
        onward = longest_from(chart, sides, lot, axis, name)
        for start in lot:
            found = longest_from(chart, sides, lot, axis, start)
            if name in found:
                ahead_of = found[name][1][:-1]
                chains.extend([(axis, ahead_of + names) for length, names in onward.values()])
    return with_greatest_number(chart, chains)
