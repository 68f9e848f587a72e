"""Plain reckonings, straight from what the document calls things, by Python's own fractions.

None in the place of a number is told as EVER, above all numbers.
"""

import fractions
import itertools

EVER = float("inf")


def walked(way):
    """All SPOTS of a WAY, one step after the other."""
    spots = [tuple(way[0])]
    for x, y in way[1:]:
        while spots[-1] != (x, y):
            u, v = spots[-1]
            spots.append((u + (x > u) - (x < u), v + (y > v) - (y < v)))
    return spots


def pair(number):
    """A number as a FRACTION, EVER as None."""
    if number == EVER:
        return None
    number = fractions.Fraction(number)
    return (number.numerator, number.denominator)


def worth(own):
    """The number of a FRACTION, EVER for None."""
    return EVER if own is None else fractions.Fraction(*own)


def before(chart, sides, axis, one, other):
    """Whether one stands left of other, above it."""
    if one == other or sides[max(one, other)][min(one, other)] != axis:
        return False
    middle, there = [sum(chart[name][2 + axis][::2]) for name in (one, other)]
    return middle < there or (middle == there and one < other)


def chains_by(chart, sides, lot, axis):
    """The names of all CHAINS of a LOT by an axis."""
    chains = [(name,) for name in lot]
    for names in chains:
        # Grows while it is gone through: a CHAIN has no NAME twice, so it ends.
        chains.extend([names + (own,) for own in lot if before(chart, sides, axis, names[-1], own)])
    return chains


def all_chains(chart, sides, lot):
    """All CHAINS of a LOT."""
    return [(axis, names) for axis in (0, 1) for names in chains_by(chart, sides, lot, axis)]


def length(chart, chain):
    axis, names = chain
    return sum([chart[name][axis] for name in names]) - chart[names[-1]][axis]


def need(chart, chain):
    axis, names = chain
    return length(chart, chain) - chart[names[0]][2 + axis][1] - chart[names[-1]][2 + axis][3]


def far(chart, chain):
    """The way of a CHAIN."""
    axis, names = chain
    return chart[names[-1]][2 + axis][2] - chart[names[0]][2 + axis][0]


def number(chart, chain):
    """The NUMBER of a CHAIN."""
    if need(chart, chain) <= 0:
        return 0
    if far(chart, chain) == 0:
        return EVER
    return fractions.Fraction(need(chart, chain), far(chart, chain))


def coming(chart, sides, lot):
    """The COMING of a LOT."""
    if any([sides[other][one] == 2 for one, other in itertools.combinations(lot, 2)]):
        return EVER
    return max([number(chart, chain) for chain in all_chains(chart, sides, lot)], default=0)


def ends_of(own, axis, scale):
    """From where to where a NAME may be by an axis."""
    low, ahead, high, behind = own[2 + axis]
    return (scale * low - ahead, scale * high + behind)


def least_places(chart, sides, lot, scale):
    """The least x and y of each NAME of a LOT that can stand, moved on until nobody is pushed."""
    places = {name: [ends_of(chart[name], axis, scale)[0] for axis in (0, 1)] for name in lot}
    for _ in lot:
        for one, other in itertools.permutations(lot, 2):
            for axis in (0, 1):
                if before(chart, sides, axis, one, other):
                    places[other][axis] = max(places[other][axis], places[one][axis] + chart[one][axis])
    return tuple([tuple([pair(place) for place in places[name]]) for name in lot])


def is_standing(chart, sides, lot, scale, standing):
    """Whether it is a STANDING, SCALE a number."""
    places = {name: [worth(own) for own in place] for name, place in zip(lot, standing)}
    for name, axis in itertools.product(lot, (0, 1)):
        low, high = ends_of(chart[name], axis, scale)
        if not low <= places[name][axis] <= high:
            return False
    for one, other in itertools.permutations(lot, 2):
        for axis in (0, 1):
            gap = places[other][axis] - places[one][axis] - chart[one][axis]
            if before(chart, sides, axis, one, other) and gap < 0:
                return False
    return not any([sides[other][one] == 2 for one, other in itertools.combinations(lot, 2)])


def greatest_places(chart, sides, lot, scale):
    """The greatest x and y of each NAME of a LOT that can stand, moved back until nobody is held."""
    places = {name: [ends_of(chart[name], axis, scale)[1] for axis in (0, 1)] for name in lot}
    for _ in lot:
        for one, other in itertools.permutations(lot, 2):
            for axis in (0, 1):
                if before(chart, sides, axis, one, other):
                    places[one][axis] = min(places[one][axis], places[other][axis] - chart[one][axis])
    return tuple([tuple([pair(place) for place in places[name]]) for name in lot])


def numbers_about(numbers):
    """Numbers above 0 at, just below, just above and between all of numbers, and beyond them."""
    near = fractions.Fraction(1, 10 ** 6)
    found = {fractions.Fraction(1, 10 ** 12), fractions.Fraction(1, 2), fractions.Fraction(7)}
    row = sorted({fractions.Fraction(own) for own in numbers if own != EVER})
    for own, behind in zip(row, row[1:] + [row[-1] + 2] if row else []):
        found.update((own - near, own, own + near, (own + behind) / 2, behind))
    return sorted([own for own in found if own > 0])


def shown(numbers, scale):
    """Of numbers by NAME, EVER for never: who has come at a number."""
    return tuple(sorted([name for name in numbers if numbers[name] <= scale]))


def all_comings(chart, sides):
    """The COMINGS of all LOTS, by LOT."""
    every = range(len(chart))
    lots = [lot for many in range(len(chart) + 1) for lot in itertools.combinations(every, many)]
    return {lot: coming(chart, sides, lot) for lot in lots}


def turns(comings, numbers):
    """All numbers at which anything can change, each but 0 with one right behind it, ascending."""
    row = sorted({own for own in [0, *comings.values(), *numbers] if own != EVER})
    found = []
    for own, behind in zip(row, row[1:] + [row[-1] + 2]):
        found.extend([own, (own + fractions.Fraction(behind)) / 2])
    return found


def stays(comings, numbers, name, start):
    """Whether name can stand, from start on, at each SCALE with all that have come by then."""
    for scale in turns(comings, numbers.values()):
        lot = tuple(sorted({*shown(numbers, scale), name}))
        if scale >= start and scale > 0 and comings[lot] > scale:
            return False
    return True


def steady(chart, sides, ranking, comings=None):
    """The steady BOOK, NAME by NAME and number by number: the numbers by NAME, EVER for never."""
    comings = comings or all_comings(chart, sides)
    numbers = {}
    for name in ranking:
        # Between two numbers at which something changes nobody comes.
        starts = [own for own in turns(comings, numbers.values()) if stays(comings, numbers, name, own)]
        numbers[name] = min(starts, default=EVER)
    return numbers


def book_told(numbers):
    """Numbers by NAME as a BOOK."""
    return tuple([pair(numbers[name]) for name in sorted(numbers)])


def never_falls(comings, numbers):
    """Whether, by numbers by NAME, the LOT SHOWN can stand at each SCALE."""
    return all([comings[shown(numbers, scale)] <= scale for scale in turns(comings, numbers.values()) if scale > 0])


def by_axes(chart, sides):
    """The MAP and the SIDES with both axes exchanged."""
    turned = tuple([(height, width, down, across) for width, height, across, down in chart])
    return turned, tuple([tuple([(1, 0, 2)[side] for side in row]) for row in sides])
