"""Who pushes whom: by an axis each NAME of a LOT is kept away from those who stand before it."""

from glidenames.sides import order_of, side_between


def sizes_by(chart, axis, many):
    """The sizes of all NAMES by axis, times many."""
    return [own[axis] * many for own in chart]


def pushers_of(chart, sides, lot, axis):
    """Pairs of each NAME of lot and those of lot who stand before it, whoever goes ahead first."""
    names = [name for name in order_of(chart, axis) if name in lot]
    return [
        (name, [one for one in names[:place] if side_between(sides, one, name) == axis])
        for place, name in enumerate(names)
    ]


def pushed_on(pairs, sizes, starts):
    """The least numbers, by NAME, to which those of starts push all who stand behind them."""
    places = dict(starts)
    # Whoever pushes a NAME goes ahead of it, so it has been pushed itself by its turn.
    for name, before in pairs:
        for one in before:
            if one in places:
                far = places[one] + sizes[one]
                if name not in places or far > places[name]:
                    places[name] = far
    return places


def held_back(pairs, sizes, ends):
    """The greatest numbers, by NAME, at which those of ends hold all who stand before them."""
    places = dict(ends)
    for name, before in reversed(pairs):
        if name in places:
            for one in before:
                far = places[name] - sizes[one]
                if one not in places or far < places[one]:
                    places[one] = far
    return places
