"""Room and reach [12]: how far names can go and how near to their homes, beside all chains there are."""

import fractions
import itertools
import random

from glidenames.errors import CanNot, NoPlace, Unfit
from glidenames.maps import sized, spread
from glidenames.outlines import greatest_place, least_place
from glidenames.room import (
    is_reach_cause, is_room_reason, nearest_places, reach, reach_cause, reach_range, room_at, room_from, room_reason,
)
from glidenames.sides import all_beside
from glidenames.stands import coming
from tests import reckoned
from tests.drawn import BESIDE, ROW, STILL, drawn_loose, some_loose, some_maps
from tests.kit import THINGS, Calls, as_lists, mixed, nested, put, unlike
from tests.reckoned import EVER, all_chains, chains_by, numbers_about, pair, worth

EVERY = (0, 1, 2)
NEVER = ((), (2,), (0, 0))
WRONG = (-1, -3, 3, 10 ** 6, -10 ** 6)
TRAIL = ((6, 1, STILL, STILL), (2, 1, (2, 0, 2, 9), STILL), (3, 1, (4, 10, 5, 9), STILL))
OWN, OFF = ((0, 0), (3, 0), (6, 0)), ((0, 0), (3, 0), (7, 0))
ROOMS = ((0, 1), (1, 3), (2, 1), (7, 2), (12, 1), (90, 1))
WORDS = ("homes", "tether", "home")


def some_standing(seed, many, most=5):
    """Quadruples of a MAP, SIDES, a LOT, maybe (), and its COMING, that is some."""
    for chart, sides, lot in [*some_maps(seed, many, most), *some_loose(seed, many, most)]:
        first = reckoned.coming(chart, sides, lot)
        if first != EVER:
            yield chart, sides, lot, first


def asked(chart, chain, room):
    """The number from which on a CHAIN leaves so much room."""
    need, way = reckoned.need(chart, chain) + room, reckoned.far(chart, chain)
    if need <= 0:
        return fractions.Fraction(0)
    return EVER if way == 0 else need / way


def drawn_homes(picked, lot):
    return tuple([(picked.randrange(-3, 8), picked.choice((0, 0, picked.randrange(-9, 10)))) for _ in lot])


def told(chart, axis, homes, scale, word, names):
    """What a CAUSE tells; homes by NAME."""
    first, last = names[0], names[-1]
    home, there = [homes[name][0] * scale + homes[name][1] for name in (first, last)]
    length = reckoned.length(chart, (axis, names))
    if word == "homes":
        return fractions.Fraction(home + length - there) / 2
    if word == "tether":
        return reckoned.ends_of(chart[first], axis, scale)[0] + length - there
    return home + length - reckoned.ends_of(chart[last], axis, scale)[1]


def causes(chart, sides, lot, axis, homes, scale):
    """Pairs of what it tells and each CAUSE there is."""
    by_name = dict(zip(lot, homes))
    return [(told(chart, axis, by_name, scale, word, names), (word, (axis, names)))
            for names in chains_by(chart, sides, lot, axis) for word in WORDS]


def plain_reach(chart, sides, lot, axis, homes, scale):
    return max([0] + [own for own, _ in causes(chart, sides, lot, axis, homes, scale)])


class TestRoom(Calls):
    def test_as_told(self):
        for scale, room in (((1, 2), (7, 2)), ((1, 1), (5, 1)), ((9, 1), (9, 1))):
            self.told(room, room_at, TRAIL, BESIDE, EVERY, 1, 0, scale)
        self.told((0, 1), room_at, ROW, BESIDE, EVERY, 1, 0, (2, 3))
        self.told((4, 1), room_at, ROW, BESIDE, (1,), 1, 0, (2, 3))
        self.told((0, 1), room_at, ROW, BESIDE, (1,), 1, 1, (2, 3))
        for room, number in (((0, 1), (0, 1)), ((5, 1), (1, 1)), ((10, 1), None), ((9, 1), (3, 1))):
            self.told(number, room_from, TRAIL, BESIDE, EVERY, 1, 0, room)
        self.told((0, (0, 1)), room_reason, TRAIL, BESIDE, EVERY, 1, 0, (5, 1))
        self.told((0, (1,)), room_reason, TRAIL, BESIDE, EVERY, 1, 0, (10, 1))
        self.told((2, 3), room_from, ROW, BESIDE, EVERY, 1, 0, (0, 1))
        self.told((1, 1), room_from, ROW, BESIDE, EVERY, 1, 0, (2, 1))
        self.told(None, room_from, ROW, BESIDE, EVERY, 1, 1, (1, 10 ** 6))

    def test_beside_all_chains(self):
        picked = random.Random(131)
        kinds = []
        for chart, sides, lot, first in some_standing(131, 70, 4):
            for name, axis in itertools.product(lot[:3], (0, 1)):
                room = picked.choice(ROOMS)
                through = [(axis, names) for names in chains_by(chart, sides, lot, axis) if name in names]
                number = max([first] + [asked(chart, chain, worth(room)) for chain in through])
                call = (chart, sides, lot, name, axis, room)
                self.told(pair(number), room_from, *call)
                kinds.append("never" if number == EVER else "at once" if number == first else "later")
                right = [chain for chain in through if asked(chart, chain, worth(room)) == number != first]
                chains = all_chains(chart, sides, lot)
                self.judged(is_room_reason, right, [chain for chain in chains if chain not in right], *call)
                if right:
                    self.assertIn(room_reason(*call), right)
                    self.told(room_reason(*call), room_reason, *call)
                else:
                    self.refused(CanNot, {}, room_reason, *call)
                for scale in [own for own in numbers_about([number, first]) if own >= first]:
                    own = room_at(*call[:5], pair(scale))
                    places = [worth(function(*call[:5], pair(scale))) for function in (greatest_place, least_place)]
                    self.assertEqual(worth(own), places[0] - places[1])
                    self.assertIs(worth(own) >= worth(room), scale >= number)
        self.assertGreater(min([kinds.count(kind) for kind in ("never", "at once", "later")]), 20)

    def test_room_never_falls(self):
        for chart, sides, lot, first in some_standing(132, 50):
            for name, axis in itertools.product(lot[:2], (0, 1)):
                rooms = [room_at(chart, sides, lot, name, axis, pair(first + more)) for more in (fractions.Fraction(1, 9), 1, 2, 5, 50)]
                self.assertEqual(list(map(worth, rooms)), sorted(map(worth, rooms)))

    def test_reasons(self):
        no = [(0, (1,)), (0, (1, 2)), (0, (0, 1, 2)), (0, (0,)), (1, (1,)), (0, (0, 2)), [0, (0, 1)], (0, [0, 1]), (False, (0, 1)),
              (0, (False, 1)), (0, (1, 0)), (0, (0, 1), 0), ((0, 1),), (0, 1), (0, (0, 1, 3)), (0, ()), nested(100, tuple)]
        self.judged(is_room_reason, [(0, (0, 1))], no + list(THINGS), TRAIL, BESIDE, EVERY, 1, 0, (5, 1))
        never = [(0, (1,))]
        self.judged(is_room_reason, never, [(0, (0, 1)), *no[1:], *THINGS], TRAIL, BESIDE, EVERY, 1, 0, (10, 1))
        # Of the COMING there is none, whatever CHAINS tell: this one has the COMING as its number.
        self.judged(is_room_reason, (), [(0, (0, 1, 2)), (0, (1,)), *no], ROW, BESIDE, EVERY, 1, 0, (0, 1))
        self.refused(CanNot, {}, room_reason, ROW, BESIDE, EVERY, 1, 0, (0, 1))
        self.refused(CanNot, {}, room_reason, ROW, BESIDE, (1,), 1, 0, (4, 1))
        self.told((1, (1,)), room_reason, ROW, BESIDE, (1,), 1, 1, (1, 7))

    def test_ways_that_are_zero(self):
        # 3 from end to end at all scales: so much room is there at once, more never.
        chart = ((2, 1, (4, 1, 4, 2), STILL),)
        self.told((0, 1), room_from, chart, ((),), (0,), 0, 0, (3, 1))
        self.told(None, room_from, chart, ((),), (0,), 0, 0, (10 ** 12 * 3 + 1, 10 ** 12))
        self.told((0, (0,)), room_reason, chart, ((),), (0,), 0, 0, (4, 1))
        self.refused(CanNot, {}, room_reason, chart, ((),), (0,), 0, 0, (3, 1))


class TestReach(Calls):
    def test_as_told(self):
        for scale, far in (((2, 3), (2, 1)), ((1, 1), (1, 1)), ((4, 3), (0, 1)), ((9, 1), (0, 1))):
            self.told(far, reach, ROW, BESIDE, EVERY, 0, OWN, scale)
        self.told(("homes", (0, (0, 1, 2))), reach_cause, ROW, BESIDE, EVERY, 0, OWN, (1, 1))
        self.told(("home", (0, (2,))), reach_cause, ROW, BESIDE, EVERY, 0, OFF, (4, 1))
        self.told(("tether", (0, (2,))), reach_cause, ROW, BESIDE, EVERY, 0, put(OWN, 2, (5, 0)), (4, 1))
        self.told(((1, 1), None), reach_range, ROW, BESIDE, EVERY, 0, OWN, (1, 1))
        self.told(((6, 7), (3, 1)), reach_range, ROW, BESIDE, EVERY, 0, OFF, (1, 1))
        self.told(((-1, 1), (3, 1), (7, 1)), nearest_places, ROW, BESIDE, EVERY, 0, OWN, (1, 1))
        self.refused(CanNot, {}, reach_cause, ROW, BESIDE, EVERY, 0, OWN, (2, 1))

    def test_the_empty_lot_and_one_name(self):
        self.told((0, 1), reach, ROW, BESIDE, (), 0, (), (1, 9))
        self.told((), nearest_places, ROW, BESIDE, (), 1, (), (1, 9))
        self.told(((0, 1), None), reach_range, ROW, NEVER, (), 1, (), (0, 1))
        self.refused(CanNot, {}, reach_cause, ROW, BESIDE, (), 0, (), (1, 9))
        self.judged(is_reach_cause, (), [("homes", (0, (0,))), *THINGS], ROW, BESIDE, (), 0, (), (1, 9))
        self.told((5, 1), reach, ROW, BESIDE, (1,), 0, ((3, 7),), (1, 2))
        self.told(((7, 2),), nearest_places, ROW, BESIDE, (1,), 0, ((3, 7),), (1, 2))

    def test_ranges(self):
        # Of one number alone, at 0 too, none at all, and without a greatest number.
        chart = ((1, 1, (0, 0, 0, 0), STILL),)
        call = (chart, ((),), (0,), 0)
        self.told(((3, 1), (3, 1)), reach_range, *call, ((2, -6),), (0, 1))
        self.told(((5, 2), (7, 2)), reach_range, *call, ((2, -6),), (1, 1))
        self.told(((1, 1), (5, 1)), reach_range, *call, ((2, -6),), (4, 1))
        self.told(((0, 1), (6, 1)), reach_range, *call, ((2, -6),), (6, 1))
        self.told(((0, 1), (0, 1)), reach_range, *call, ((5, 0),), (0, 1))
        self.told(((0, 1), (1, 10)), reach_range, *call, ((5, 0),), (1, 2))
        self.told(((0, 1), None), reach_range, *call, ((0, 3),), (3, 1))
        self.refused(CanNot, {}, reach_range, *call, ((0, 3),), (29, 10))
        self.refused(CanNot, {}, reach_range, *call, ((1, 3),), (2, 1))
        self.refused(CanNot, {}, reach_range, ROW, BESIDE, EVERY, 0, ((9, 0), (3, 0), (6, 0)), (1, 1))
        self.told(((2, 3), None), reach_range, ROW, BESIDE, EVERY, 0, OWN, (2, 1))

    def test_beside_all_causes(self):
        picked = random.Random(133)
        words, zeros = [], 0
        for chart, sides, lot, first in some_standing(133, 70, 4):
            axis, homes = picked.randrange(2), drawn_homes(picked, lot)
            if picked.randrange(2):
                homes = tuple([(chart[name][2 + axis][0], 0) for name in lot])
            for scale in [own for own in numbers_about([first])[:5] + [fractions.Fraction(9)] if own >= first]:
                call = (chart, sides, lot, axis, homes, pair(scale))
                every = causes(*call[:5], scale)
                far = plain_reach(*call[:5], scale)
                self.same(reach(*call), pair(far))
                right = [own for there, own in every if there == far > 0]
                wrong = [own for _, own in every if own not in right]
                wrong += [(word, (1 - axis, (name,))) for word in WORDS for name in lot]
                self.judged(is_reach_cause, right, wrong, *call)
                if right:
                    self.assertIn(reach_cause(*call), right)
                    words.append(reach_cause(*call)[0])
                else:
                    zeros += 1
                    self.refused(CanNot, {}, reach_cause, *call)
                self.holds(call, scale, far)
            self.told(pair(far), reach, *call)
            if right:
                self.told(reach_cause(*call), reach_cause, *call)
        self.assertGreater(min([zeros] + [words.count(word) for word in WORDS]), 10)

    def holds(self, call, scale, far):
        """Fails unless nearest_places are places within the REACH, and the least of them."""
        chart, sides, lot, axis, homes, _ = call
        own = nearest_places(*call)
        places = {name: worth(place) for name, place in zip(lot, own)}
        starts = {}
        for name, (slope, rest) in zip(lot, homes):
            low, high = reckoned.ends_of(chart[name], axis, scale)
            starts[name] = max(low, slope * scale + rest - far)
            self.assertTrue(starts[name] <= places[name] <= min(high, slope * scale + rest + far))
        for one, other in itertools.permutations(lot, 2):
            if reckoned.before(chart, sides, axis, one, other):
                self.assertGreaterEqual(places[other], places[one] + chart[one][axis])
        # Each is the least: some CHAIN leads to it from a NAME that can not stand any less far.
        for name in lot:
            least = max([starts[names[0]] + reckoned.length(chart, (axis, names))
                         for names in chains_by(chart, sides, lot, axis) if names[-1] == name])
            self.assertEqual(places[name], least)
        self.told(own, nearest_places, *call)

    def test_ranges_beside_the_reach_at_many_scales(self):
        picked = random.Random(134)
        kinds = []
        for chart, sides, lot, first in some_standing(134, 80, 4):
            axis, homes = picked.randrange(2), drawn_homes(picked, lot)
            if picked.randrange(2):
                homes = tuple([(chart[name][2 + axis][0], 1) for name in lot])
            most = worth(picked.choice(((0, 1), (1, 2), (3, 1), (40, 1))))
            call = (chart, sides, lot, axis, homes, pair(most))
            try:
                low, high = reach_range(*call)
            except CanNot:
                kinds.append("none")
                self.refused(CanNot, {}, reach_range, *call)
                low, high = None, (0, 1)
            else:
                kinds.append("open" if high is None else "closed")
                self.told((low, high), reach_range, *call)
                self.assertLessEqual(first, worth(low))
                for end in (low, high):
                    if end is not None:
                        self.assertLessEqual(plain_reach(*call[:5], worth(end)), most)
            scales = numbers_about([first] + [worth(end) for end in (low, high) if end is not None]) + [10 ** 6]
            for scale in [own for own in scales if own >= first]:
                self.assertIs(plain_reach(*call[:5], scale) <= most, worth(low) <= scale <= worth(high))
        self.assertGreater(min([kinds.count(kind) for kind in ("none", "open", "closed")]), 10)

    def test_causes(self):
        own = ("homes", (0, (0, 1, 2)))
        no = [("home", own[1]), ("tether", own[1]), ("Homes", own[1]), ("", own[1]), (0, own[1]), (None, own[1]), list(own), own[:1],
              own + (0,), (own,), own[::-1], ("homes", [0, (0, 1, 2)]), ("homes", (0, [0, 1, 2])), ("homes", (False, (0, 1, 2))),
              ("homes", (0, (False, 1, 2))), ("homes", (0, (False, True, 2))), ("homes", (0, (0, 2))), ("homes", (1, (0, 1, 2))),
              ("homes", (0, (0, 1, 3))), ("homes", (0, (0, 1))), ("homes", None), ("homes", ()), ("homes", (1, (0,))),
              (["homes"], own[1]), ("homes", nested(99, tuple)), (nested(99, list), own[1]), as_lists(own), mixed(own)]
        no += [("homes", thing) for thing in THINGS] + [(thing, own[1]) for thing in unlike(THINGS, [])]
        self.judged(is_reach_cause, [own], no + list(THINGS), ROW, BESIDE, EVERY, 0, OWN, (1, 1))
        # At 2/3 many CAUSES tell it; with a REACH of 0 there is none, though these tell just 0.
        self.judged(is_reach_cause, [own, ("tether", own[1]), ("home", own[1])], [("home", (0, (1,)))], ROW, BESIDE, EVERY, 0, OWN, (2, 3))
        self.judged(is_reach_cause, (), [own, ("homes", (0, (1,))), *no], ROW, BESIDE, EVERY, 0, OWN, (4, 3))
        # A NAME that is none of the LOT; and a CHAIN by the other axis.
        self.judged(is_reach_cause, [("home", (0, (2,)))], [own, ("home", (0, (1, 2))), ("home", (1, (2,)))], ROW, BESIDE, (0, 2), 0, (OFF[0], OFF[2]), (4, 1))

    def test_sixteen_names(self):
        picked = random.Random(135)
        for _ in range(4):
            chart, sides = drawn_loose(picked, 16)
            chart, every = sized(chart, 10 ** 4), tuple(range(16))
            first = coming(chart, sides, every)
            if first is not None:
                homes = drawn_homes(picked, every)
                for axis in (0, 1):
                    scale = pair(worth(first) + fractions.Fraction(1, 10 ** 12))
                    far = reach(chart, sides, every, axis, homes, scale)
                    word, (_, names) = reach_cause(chart, sides, every, axis, homes, scale)
                    self.assertEqual(pair(told(chart, axis, homes, worth(scale), word, names)), far)
                    for name, place in zip(every, nearest_places(chart, sides, every, axis, homes, scale)):
                        home = homes[name][0] * worth(scale) + homes[name][1]
                        self.assertLessEqual(abs(worth(place) - home), worth(far))

    def test_what_is_returned_is_passed_in_again(self):
        chart = sized(spread(TRAIL, 10 ** 6), 10 ** 12)
        room = room_at(chart, all_beside(chart), EVERY, 1, 0, (10 ** 9, 7))
        number = room_from(chart, BESIDE, EVERY, 1, 0, room)
        self.told(room, room_at, chart, BESIDE, EVERY, 1, 0, number)
        homes = tuple([(place[0], 10 ** 20) for place in nearest_places(chart, BESIDE, EVERY, 0, OWN, (1, 1))])
        far = reach(chart, BESIDE, EVERY, 0, homes, number)
        low, high = reach_range(chart, BESIDE, EVERY, 0, homes, far)
        self.assertTrue(worth(low) <= worth(number) <= worth(high))


class TestErrors(Calls):
    def test_rooms(self):
        for function, rest in ((room_at, ((2, 3),)), (room_from, ((5, 1),)), (room_reason, ((5, 1),)), (is_room_reason, ((5, 1), None)),
                               (is_room_reason, ((0, 1), (0, (0, 1))))):
            for name, sides, lot in itertools.product(WRONG, (BESIDE, NEVER), (EVERY, ())):
                self.refused(NoPlace, {"place": name}, function, ROW, sides, lot, name, 0, *rest)
            for sides, lot in ((BESIDE, (0, 2)), (BESIDE, ()), (NEVER, (0, 2))):
                self.refused(Unfit, {}, function, ROW, sides, lot, 1, 0, *rest)
            self.refused(Unfit, {}, function, ROW, NEVER, (0, 1), 2, 0, *rest)
            self.refused(CanNot, {}, function, ROW, NEVER, EVERY, 2, 0, *rest)
        self.refused(CanNot, {}, room_at, ROW, BESIDE, EVERY, 2, 0, (1, 2))
        for thing in THINGS[:5]:
            self.refused(CanNot, {}, is_room_reason, ROW, NEVER, EVERY, 2, 0, (5, 1), thing)

    def test_reaches(self):
        for function, rest in ((reach, ()), (reach_cause, ()), (is_reach_cause, (None,)), (nearest_places, ())):
            self.refused(CanNot, {}, function, ROW, BESIDE, EVERY, 0, OWN, (1, 2), *rest)
            self.refused(CanNot, {}, function, ROW, NEVER, EVERY, 0, OWN, (10 ** 12, 1), *rest)
        self.refused(CanNot, {}, reach_range, ROW, NEVER, EVERY, 0, OWN, (10 ** 12, 1))
        for thing in THINGS[:5]:
            self.refused(CanNot, {}, is_reach_cause, ROW, BESIDE, EVERY, 0, OWN, (1, 2), thing)
