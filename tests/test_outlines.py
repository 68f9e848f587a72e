"""Outlines [11]: least and greatest places through all scales, and who pushes, beside all chains there are."""

import fractions
import itertools
import random

from glidenames.errors import CanNot, NoPlace, Unfit
from glidenames.maps import sized, spread
from glidenames.outlines import (
    ceiling, greatest_place, is_outline, is_push_chain, least_place, outline, push_chain, pushed_by, pusher_at,
)
from glidenames.sides import all_beside
from glidenames.stands import coming
from tests import reckoned
from tests.drawn import BESIDE, ROW, STILL, drawn_map, drawn_sides, some_loose, some_maps
from tests.kit import THINGS, Calls, as_lists, mixed, nested, put, unlike
from tests.reckoned import EVER, chains_by, numbers_about, pair, worth

EVERY = (0, 1, 2)
NEVER = ((), (2,), (0, 0))
WRONG = (-1, -3, 3, 10 ** 6, -10 ** 6)
TRAIL = ((6, 1, STILL, STILL), (2, 1, (2, 0, 2, 9), STILL), (3, 1, (4, 10, 5, 9), STILL))
TRAIL_PIECES = (((0, 1), 0, 0, 8), ((3, 1), 1, 2, 2), ((6, 1), 2, 4, -10))


def lines(chart, sides, lot, name, axis, hold):
    """Triples of a NAME, a slope and a rest: by all CHAINS of a LOT who pushes name, or holds it."""
    told = []
    for names in chains_by(chart, sides, lot, axis):
        low, ahead, high, behind = chart[names[0 if not hold else -1]][2 + axis]
        length = reckoned.length(chart, (axis, names))
        if not hold and names[-1] == name:
            told.append((names[0], low, length - ahead))
        if hold and names[0] == name:
            told.append((names[-1], high, behind - length))
    return told


def told_at(line, number):
    return number * line[1] + line[2]


def pieces(told, first, most):
    """The pieces from first on, most being max or min: by all numbers at which two lines meet."""
    turns = {first}
    for (_, slope, rest), (_, other, there) in itertools.combinations(told, 2):
        if slope != other:
            turns.add(fractions.Fraction(there - rest, slope - other))
    turns = sorted([own for own in turns if own >= first])
    found = []
    for own, behind in zip(turns, turns[1:] + [turns[-1] + 2]):
        middle = (own + behind) / 2
        best = most([told_at(line, middle) for line in told])
        line = min([line for line in told if told_at(line, middle) == best])
        if not found or found[-1][2:] != line[1:]:
            found.append((pair(own), *line))
    return tuple(found)


def some_standing(seed, many, most=5):
    """Quintuples of a MAP, SIDES, a LOT, its COMING, that is some, and a NAME of it."""
    picked = random.Random(seed)
    for chart, sides, lot in [*some_maps(seed, many, most), *some_loose(seed, many, most)]:
        first = reckoned.coming(chart, sides, lot)
        if lot and first != EVER:
            yield chart, sides, lot, first, picked.choice(lot)


class TestPieces(Calls):
    def test_as_told(self):
        self.told((((2, 3), 0, 0, 6), ((4, 3), 2, 6, -2)), outline, ROW, BESIDE, EVERY, 2, 0)
        self.told((((2, 3), 2, 6, -6), ((4, 3), 0, 0, 2)), ceiling, ROW, BESIDE, EVERY, 0, 0)
        self.told(TRAIL_PIECES, outline, TRAIL, BESIDE, EVERY, 2, 0)
        self.told((((0, 1), 2, 5, 7), ((2, 3), 1, 2, 9)), ceiling, TRAIL, BESIDE, EVERY, 1, 0)
        # By the other axis nobody stands before another one; alone nobody is pushed.
        self.told((((0, 1), 2, 0, 0),), outline, TRAIL, BESIDE, EVERY, 2, 1)
        self.told((((0, 1), 2, 4, -10),), outline, TRAIL, BESIDE, (2,), 2, 0)
        self.told((((0, 1), 2, 5, 9),), ceiling, TRAIL, BESIDE, (2,), 2, 0)
        self.told((((0, 1), 0, 0, -2),), outline, ROW[:1], ((),), (0,), 0, 0)

    def test_two_that_push_alike_and_three_lines_that_meet(self):
        # NAMES 0 and 1, one above the other, push NAME 2 by one and the same line.
        twins = ((4, 1, (0, 0, 0, 0), (0, 0, 0, 9)), (4, 1, (0, 0, 0, 0), (0, 0, 0, 9)), (1, 1, (1, 0, 5, 9), STILL))
        sides = ((), (1,), (0, 0))
        for chart in (twins, (twins[1], twins[0], twins[2])):
            self.told((((0, 1), 0, 0, 4), ((4, 1), 2, 1, 0)), outline, chart, sides, EVERY, 2, 0)
        self.told((((0, 1), 1, 0, 4), ((4, 1), 2, 1, 0)), outline, twins, sides, (1, 2), 2, 0)
        # At 2 the lines of all three meet: NAME 1 pushes along no piece.
        meeting = ((6, 1, STILL, (0, 0, 0, 9)), (4, 1, (1, 0, 1, 0), (0, 0, 0, 9)), (1, 1, (3, 0, 3, 9), STILL))
        self.told((((0, 1), 0, 0, 6), ((2, 1), 2, 3, 0)), outline, meeting, sides, EVERY, 2, 0)
        self.told(0, pusher_at, meeting, sides, EVERY, 2, 0, (199, 100))
        self.told(2, pusher_at, meeting, sides, EVERY, 2, 0, (2, 1))
        for chain, told in (((0, (0, 2)), True), ((0, (1, 2)), True), ((0, (2,)), True)):
            self.assertIs(is_push_chain(meeting, sides, EVERY, 2, 0, (2, 1), chain), told)
        # At the COMING two push: the one that pushes on from there has the piece.
        late = ((4, 1, (0, 0, 0, 0), STILL), (1, 1, (1, 0, 1, 0), STILL))
        self.told((((4, 1), 1, 1, 0),), outline, late, ((), (0,)), (0, 1), 1, 0)
        self.told((((4, 1), 0, 0, 0),), ceiling, late, ((), (0,)), (0, 1), 0, 0)

    def test_beside_all_chains(self):
        counts = []
        for chart, sides, lot, first, name in some_standing(121, 200):
            for axis in (0, 1):
                call = (chart, sides, lot, name, axis)
                own = outline(*call)
                self.same(own, pieces(lines(*call, False), first, max))
                self.same(ceiling(*call), pieces(lines(*call, True), first, min))
                self.assertLessEqual(len(own), len(lot))
                counts.append(len(own))
            self.told(own, outline, *call)
            self.told(ceiling(*call), ceiling, *call)
        self.assertGreater(max(counts), 2)
        self.assertGreater(len([many for many in counts if many > 1]), 60)

    def test_sixteen_names(self):
        picked = random.Random(122)
        every = tuple(range(16))
        chart = sized(drawn_map(picked, 16), 10 ** 4)
        for sides in (all_beside(chart), drawn_sides(picked, 16, (0, 0, 1))):
            first = coming(chart, sides, every)
            if first is not None:
                for axis, name in itertools.product((0, 1), (3, 15)):
                    own = outline(chart, sides, every, name, axis)
                    for number in numbers_about([worth(piece[0]) for piece in own]):
                        if number >= worth(first):
                            told = reckoned.least_places(chart, sides, every, number)[name][axis]
                            self.same(least_place(chart, sides, every, name, axis, pair(number)), told)
                            piece = [piece for piece in own if worth(piece[0]) <= number][-1]
                            self.same(pair(told_at(piece[1:], number)), told)

    def test_guarantees(self):
        for chart, sides, lot, first, name in some_standing(123, 120):
            for axis in (0, 1):
                for row, sign in ((outline(chart, sides, lot, name, axis), 1), (ceiling(chart, sides, lot, name, axis), -1)):
                    slopes = [sign * slope for _, _, slope, _ in row]
                    froms = [worth(own) for own, _, _, _ in row]
                    self.assertEqual(slopes, sorted(set(slopes)))
                    self.assertEqual(froms, sorted(set(froms)))
                    self.assertEqual(froms[0], first)
                    self.assertEqual(len({pusher for _, pusher, _, _ in row}), len(row))
                    for _, pusher, slope, _ in row:
                        self.assertEqual(slope, chart[pusher][2 + axis][0 if sign == 1 else 2])
                    for one, other in zip(row, row[1:]):
                        self.assertEqual(told_at(one[1:], worth(other[0])), told_at(other[1:], worth(other[0])))


class TestIsOutline(Calls):
    def test_things(self):
        own = TRAIL_PIECES
        no = [as_lists(own), list(own), mixed(own), own[:2], own[1:], own[::-1], own + own[2:], (own,), ()]
        for place, piece in enumerate(own):
            for part in range(4):
                for new in (as_lists(piece[part]), True, False, None, 7, -1, (1, 2), (0, 2), (6, 2), (3, True), "0"):
                    if repr(new) != repr(piece[part]):
                        no.append(put(own, place, put(piece, part, new)))
            no += [put(own, place, new) for new in (piece[:3], piece + (0,), list(piece), piece[::-1], nested(99, tuple))]
            no += [put(own, place, thing) for thing in THINGS]
        self.judged(is_outline, [own], no + list(THINGS), TRAIL, BESIDE, EVERY, 2, 0)
        # A piece of one number alone is none; nor is one parted in two.
        no = [own[:1] + (((3, 1), 0, 0, 8),) + own[1:], own[:1] + (((2, 1), 0, 0, 8),) + own[1:], (((0, 1), 1, 2, 2),) + own]
        self.judged(is_outline, [own], no, TRAIL, BESIDE, EVERY, 2, 0)
        # True equals 1 and False 0, by Python, and are no numbers.
        flat = (((0, 1), 0, 0, 0),)
        self.judged(is_outline, [flat], [(((0, 1), False, 0, 0),), (((0, True), 0, 0, 0),), (((False, 1), 0, 0, 0),),
                                         (((0, 1), 0, 0, False),), (((0, 2), 0, 0, 0),)], TRAIL, BESIDE, (0,), 0, 1)

    def test_errors_whatever_thing_is(self):
        for thing in (TRAIL_PIECES, None, (), nested(100, list), "a"):
            self.refused(NoPlace, {"place": 3}, is_outline, ROW, NEVER, (0, 1), 3, 0, thing)
            self.refused(Unfit, {}, is_outline, ROW, NEVER, (0, 1), 2, 0, thing)
            self.refused(CanNot, {}, is_outline, ROW, NEVER, (0, 1), 1, 0, thing)

    def test_others_are_none(self):
        for chart, sides, lot, first, name in some_standing(124, 60):
            own = outline(chart, sides, lot, name, 0)
            self.assertIs(is_outline(chart, sides, lot, name, 0, own), True)
            for other in lot:
                there = outline(chart, sides, lot, other, 0)
                self.assertIs(is_outline(chart, sides, lot, name, 0, there), there == own)


class TestPlaces(Calls):
    def test_as_told(self):
        for scale, told in (((1, 2), (8, 1)), ((7, 2), (9, 1)), ((8, 1), (22, 1)), ((3, 1), (8, 1)), ((6, 1), (14, 1))):
            self.told(told, least_place, TRAIL, BESIDE, EVERY, 2, 0, scale)
        self.told((0, 1), greatest_place, ROW, BESIDE, EVERY, 0, 0, (1, 1))
        self.told((-2, 1), greatest_place, ROW, BESIDE, EVERY, 0, 0, (2, 3))

    def test_beside_plain_ones(self):
        for chart, sides, lot, first, name in some_standing(125, 120):
            for scale in [own for own in numbers_about([first]) if own >= first]:
                low, high = [function(chart, sides, lot, scale)[lot.index(name)]
                             for function in (reckoned.least_places, reckoned.greatest_places)]
                for axis in (0, 1):
                    call = (chart, sides, lot, name, axis, pair(scale))
                    self.same(least_place(*call), low[axis])
                    self.same(greatest_place(*call), high[axis])
            self.told(low[1], least_place, *call)
            self.told(high[1], greatest_place, *call)

    def test_with_more_names_none_is_less(self):
        for chart, sides, lot, first, name in some_standing(126, 80):
            scale, part = pair(first + 1), tuple([own for own in lot if own == name or own % 2])
            for axis in (0, 1):
                low, alone = [worth(least_place(chart, sides, names, name, axis, scale)) for names in (lot, part)]
                self.assertGreaterEqual(low, alone)

    def test_what_is_returned_is_passed_in_again(self):
        chart = sized(spread(TRAIL, 10 ** 12), 10 ** 6)
        own = outline(chart, BESIDE, EVERY, 2, 0)
        self.judged(is_outline, [own], [TRAIL_PIECES, as_lists(own)], chart, BESIDE, EVERY, 2, 0)
        for number, _, slope, rest in own[1:]:
            told = pair(worth(number) * slope + rest)
            self.told(told, least_place, chart, BESIDE, EVERY, 2, 0, number)


class TestPushers(Calls):
    def test_as_told(self):
        self.told((0, 1, 1), pushed_by, TRAIL, BESIDE, EVERY, 0, (4, 1))
        for scale, pushers in (((1, 9), (0, 0, 0)), ((299, 100), (0, 0, 0)), ((3, 1), (0, 1, 1)), ((599, 100), (0, 1, 1)),
                               ((6, 1), (0, 1, 2)), ((10 ** 6, 1), (0, 1, 2))):
            self.told(pushers, pushed_by, TRAIL, BESIDE, EVERY, 0, scale)
            for name in EVERY:
                self.told(pushers[name], pusher_at, TRAIL, BESIDE, EVERY, name, 0, scale)
        self.told((0, 0), pushed_by, TRAIL, BESIDE, (0, 2), 0, (1, 1))
        self.told((), pushed_by, TRAIL, BESIDE, (), 0, (1, 1))
        self.told((0, (0, 1, 2)), push_chain, TRAIL, BESIDE, EVERY, 2, 0, (2, 1))
        self.told((1, (2,)), push_chain, TRAIL, BESIDE, EVERY, 2, 1, (2, 1))

    def test_push_chains(self):
        own = ((0, (0, 1, 2)), (0, (1, 2)))
        no = [(0, (2,)), (0, (0, 2)), (0, (0, 1)), (0, (1,)), (1, (2,)), (0, (1, 0)), [0, (1, 2)], (0, [1, 2]), (False, (1, 2)),
              (0, (True, 2)), (0, (3,)), (0, (-1,)), (0, ()), (0, (0, 1, 2), 0), (0,), None, (0, 2), ((1, 2),), (1, (0, 1, 2))]
        self.judged(is_push_chain, own, no + list(THINGS), TRAIL, BESIDE, EVERY, 2, 0, (3, 1))
        self.judged(is_push_chain, own[:1], [own[1]], TRAIL, BESIDE, EVERY, 2, 0, (299, 100))
        self.judged(is_push_chain, own[1:], [own[0]], TRAIL, BESIDE, EVERY, 2, 0, (301, 100))
        # Of the LOT without NAME 1 another one pushes; and one by the other axis is none.
        self.judged(is_push_chain, [(0, (0, 2))], own, TRAIL, BESIDE, (0, 2), 2, 0, (3, 1))
        self.judged(is_push_chain, [(1, (2,))], own + ((0, (2,)),), TRAIL, BESIDE, EVERY, 2, 1, (3, 1))

    def test_beside_all_chains(self):
        for chart, sides, lot, first, name in some_standing(127, 100):
            for axis in (0, 1):
                own = outline(chart, sides, lot, name, axis)
                chains = [(there, names) for there in (0, 1) for names in chains_by(chart, sides, lot, there)]
                for scale in [number for number in numbers_about([worth(piece[0]) for piece in own]) if number >= first][:6]:
                    call = (chart, sides, lot, name, axis, pair(scale))
                    place = max([told_at(line, scale) for line in lines(*call[:5], False)])
                    right = [(axis, names) for there, names in chains if there == axis and names[-1] == name and
                             scale * chart[names[0]][2 + axis][0] - chart[names[0]][2 + axis][1] + reckoned.length(chart, (axis, names)) == place]
                    self.assertEqual([chain for chain in chains if is_push_chain(*call, chain)], right)
                    self.assertIn(push_chain(*call), right)
                    self.assertEqual(pusher_at(*call), [piece[1] for piece in own if worth(piece[0]) <= scale][-1])
                    self.assertIn(pusher_at(*call), [names[0] for _, names in right])
                self.told(push_chain(*call), push_chain, *call)
                self.assertEqual(pushed_by(chart, sides, lot, axis, pair(scale)),
                                 tuple([pusher_at(chart, sides, lot, other, axis, pair(scale)) for other in lot]))


class TestErrors(Calls):
    def calls(self):
        """Each function of a NAME, by a NAME and LOT, with SIDES: with a SCALE and without."""
        for function in (outline, ceiling):
            yield function, ()
        for function in (least_place, greatest_place, pusher_at, push_chain):
            yield function, ((1, 2),)
        for thing in (None, (0, (2,)), nested(100, tuple)):
            yield is_push_chain, ((1, 2), thing)

    def test_first_of_all_names_that_are_none(self):
        for (function, rest), name in itertools.product(self.calls(), WRONG):
            for sides, lot in ((BESIDE, EVERY), (NEVER, EVERY), (NEVER, ())):
                self.refused(NoPlace, {"place": name}, function, ROW, sides, lot, name, 0, *rest)

    def test_then_names_that_are_none_of_the_lot(self):
        for function, rest in self.calls():
            for sides, lot in ((BESIDE, (0, 2)), (NEVER, (0,)), (BESIDE, ())):
                self.refused(Unfit, {}, function, ROW, sides, lot, 1, 0, *rest)
            self.refused(Unfit, {}, function, ROW, NEVER, (0, 1), 2, 1, *rest)

    def test_then_lots_that_can_not_stand(self):
        for function, rest in self.calls():
            self.refused(CanNot, {}, function, ROW, NEVER, EVERY, 2, 0, *rest)
            if rest:
                self.refused(CanNot, {}, function, ROW, BESIDE, EVERY, 2, 0, *rest)
                function(ROW, BESIDE, EVERY, 2, 0, (2, 3), *rest[1:])
        self.refused(CanNot, {}, pushed_by, ROW, NEVER, EVERY, 0, (9, 1))
        self.refused(CanNot, {}, pushed_by, ROW, BESIDE, EVERY, 1, (1, 2))
        self.told((0, 0), pushed_by, ROW, BESIDE, (0, 1), 0, (1, 1))

    def test_things_do_not_matter_to_errors(self):
        for thing in unlike(THINGS, [])[:6]:
            self.refused(CanNot, {}, is_push_chain, ROW, BESIDE, EVERY, 2, 0, (1, 2), thing)
