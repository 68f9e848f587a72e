"""What a CHAIN asks of its two ends: besides them its length tells all."""

from glidenames.fractions import fraction, is_less
from glidenames.maps import TETHERS


def need_between(chart, axis, first, last, length):
    """The need of a CHAIN so long from first to last."""
    return length - chart[first][TETHERS + axis][1] - chart[last][TETHERS + axis][3]


def way_between(chart, axis, first, last):
    """The way of a CHAIN from first to last."""
    return chart[last][TETHERS + axis][2] - chart[first][TETHERS + axis][0]


def number_between(chart, axis, first, last, length):
    """The NUMBER of a CHAIN so long from first to last."""
    need = need_between(chart, axis, first, last, length)
    way = way_between(chart, axis, first, last)
    if need <= 0:
        return (0, 1)
    if way == 0:
        return None
    return fraction(need, way)


def is_under(one, other):
    """Whether the NUMBER one is less than other, None above every other one."""
    if one is None:
        return False
    return other is None or is_less(one, other)
