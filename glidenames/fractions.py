"""Fractions: pairs (top, below) in lowest terms, below from 1.

What is handed in may be a list, so that each result is put together anew
as a tuple.
"""

from math import gcd

from glidenames.errors import CanNot, Unfit
from glidenames.values import is_from, is_number, is_tuple_of


def is_fraction(thing):
    """Whether thing is a FRACTION."""
    if not is_tuple_of(thing, 2):
        return False
    top, below = thing
    return is_number(top) and is_from(below, 1) and gcd(top, below) == 1


def is_scale(thing):
    """Whether thing is a SCALE: a FRACTION above 0."""
    return is_fraction(thing) and thing[0] > 0


def fraction(top, below):
    """The FRACTION whose number is top divided by below."""
    if below == 0:
        raise Unfit()
    common = gcd(top, below)
    if below < 0:
        common = -common
    return (top // common, below // common)


def plus(one, other):
    """Both added up."""
    return fraction(one[0] * other[1] + other[0] * one[1], one[1] * other[1])


def minus(one, other):
    """one less other."""
    return fraction(one[0] * other[1] - other[0] * one[1], one[1] * other[1])


def times(one, other):
    """one times other."""
    return fraction(one[0] * other[0], one[1] * other[1])


def over(one, other):
    """one divided by other."""
    if other[0] == 0:
        raise CanNot()
    return fraction(one[0] * other[1], one[1] * other[0])


def is_less(one, other):
    """Whether the number of one is less than that of other."""
    return one[0] * other[1] < other[0] * one[1]


def greatest(many):
    """The greatest of many."""
    if len(many) == 0:
        raise CanNot()
    best = many[0]
    for own in many:
        if is_less(best, own):
            best = own
    return tuple(best)


def least(many):
    """The least of many."""
    if len(many) == 0:
        raise CanNot()
    best = many[0]
    for own in many:
        if is_less(own, best):
            best = own
    return tuple(best)


def ascending(many):
    """many in order, each number once."""
    row = []
    for own in many:
        if tuple(own) not in row:
            row.insert(len([low for low in row if is_less(low, own)]), tuple(own))
    return tuple(row)


def straight(low, high, scale, first, second):
    """What is told at scale on the straight way from first at low to second at high."""
    # With low as high there is no way to go: over raises CanNot() then, too.
    share = over(minus(scale, low), minus(high, low))
    return plus(first, times(minus(second, first), share))
