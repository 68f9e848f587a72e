"""Rings: what they ask of the offsets of names from event to event, and the one that asks the most."""

from math import lcm

from glidenames.fractions import fraction, minus, over, plus, times
from glidenames.maps import TETHERS
from glidenames.pushing import pushers_of


def asked(chart, axis, scales, one, other):
    """What a RING asks as it goes from the spot one to other."""
    if other is None:
        low, _, high, behind = chart[one[0]][TETHERS + axis]
        return minus((0 - behind, 1), times(scales[one[1]], (high - low, 1)))
    if one is None:
        return (0 - chart[other[0]][TETHERS + axis][1], 1)
    if one[0] == other[0]:
        return (0, 1)
    more = chart[other[0]][TETHERS + axis][0] - chart[one[0]][TETHERS + axis][0]
    return minus((chart[one[0]][axis], 1), times(scales[one[1]], (more, 1)))


def run_of(scales, one, other):
    """What the EVENTS of a step from one to other differ by; 0 for all that is no step."""
    if one is None or other is None:
        return (0, 1)
    return minus(scales[max(one[1], other[1])], scales[min(one[1], other[1])])


def has_step(ring):
    """Whether ring has a step."""
    spots = ring[1]
    return any([
        one is not None and other is not None and one[0] == other[0]
        for one, other in zip(spots, spots[1:] + spots[:1])
    ])


def ratio_by(chart, scales, ring):
    """The RATIO of ring; CanNot() without a step."""
    axis, spots = ring
    asks, runs = (0, 1), (0, 1)
    for one, other in zip(spots, spots[1:] + spots[:1]):
        asks = plus(asks, asked(chart, axis, scales, one, other))
        runs = plus(runs, run_of(scales, one, other))
    return over(asks, runs)


def pushes_at(chart, sides, axis, lot, at):
    """Pairs of spots at the EVENT at: who stands before whom, in the order in which they are pushed."""
    return [
        ((one, at), (name, at)) for name, before in pushers_of(chart, sides, lot, axis) for one in before
    ]


def links_of(chart, sides, axis, lots):
    """Pairs of spots: from where to where RINGS go, but for the ways back to None.

    lots are the LOTS SHOWN at the EVENTS. At first all go on from EVENT to EVENT, then all go back.
    """
    pushes = [pushes_at(chart, sides, axis, lot, at) for at, lot in enumerate(lots)]
    links = []
    for at, lot in enumerate(lots):
        links.extend([(None, (name, at)) for name in lot])
        if at > 0:
            links.extend([((name, at - 1), (name, at)) for name in lots[at - 1]])
        links.extend(pushes[at])
    for at in reversed(range(len(lots) - 1)):
        links.extend([((name, at + 1), (name, at)) for name in lots[at]])
        links.extend(pushes[at])
    return links


def whole_of(scales):
    """The least number by which each of scales comes to be whole."""
    whole = 1
    for _, below in scales:
        whole = lcm(whole, below)
    return whole


class Course:
    """All RINGS by one axis through the LOTS SHOWN at EVENTS."""

    def __init__(self, chart, sides, axis, scales, lots):
        self.axis = axis
        # All asks and runs times this are whole numbers.
        self.whole = whole_of(scales)
        self.links = [
            (one, other, self.in_parts(asked(chart, axis, scales, one, other)),
             self.in_parts(run_of(scales, one, other)))
            for one, other in links_of(chart, sides, axis, lots)
        ]
        self.backs = [
            ((name, at), self.in_parts(asked(chart, axis, scales, (name, at), None)))
            for at, lot in enumerate(lots) for name in lot
        ]

    def in_parts(self, own):
        """own times whole, a number."""
        return own[0] * (self.whole // own[1])

    def pushed(self, slide):
        """The pair of the least offset of each spot with this slide, times whole and the below of slide,
        and of the spot that asks for it.
        """
        top, below = slide
        weights = [(one, other, ask * below - run * top) for one, other, ask, run in self.links]
        offsets, froms = {None: 0}, {}
        changed = True
        # It ends: a ring that never goes back to None is one of steps alone, and these ask for nothing.
        while changed:
            changed = False
            for one, other, weight in weights:
                if one in offsets and (other not in offsets or offsets[one] + weight > offsets[other]):
                    offsets[other] = offsets[one] + weight
                    froms[other] = one
                    changed = True
        return (offsets, froms)

    def ring_over(self, slide):
        """Of the RINGS that ask for more than slide times their runs one that does by the most, or None."""
        offsets, froms = self.pushed(slide)
        tries = [(offsets[spot] + ask * slide[1], spot) for spot, ask in self.backs]
        if len(tries) == 0 or max(tries)[0] <= 0:
            return None
        _, spot = max(tries)
        spots = []
        while spot is not None:
            spots.append(spot)
            spot = froms[spot]
        return (self.axis, (None,) + tuple(spots[::-1]))

    def offsets_within(self, slide):
        """The least offset of each spot with this slide, as FRACTIONS."""
        offsets, _ = self.pushed(slide)
        return {spot: fraction(offsets[spot], self.whole * slide[1]) for spot in offsets}
