"""Stands [10]: when lots can stand, why not, and where, beside plain reckonings."""

import fractions
import itertools
import random

from glidenames.errors import CanNot
from glidenames.maps import map_moved, part_of, place_turned, sides_turned, sized, spread, turned
from glidenames.sides import bans, by_rule, in_row, is_row, part_sides, with_side
from glidenames.stands import (
    can_stand, coming, greatest_standing, is_standing, is_why_not, least_standing, standing, why_not,
)
from tests import reckoned
from tests.drawn import BESIDE, ROW, RULE, STILL, TOWN, drawn_map, drawn_sides, some_maps
from tests.kit import THINGS, Calls, as_lists, mixed, nested, put, unlike
from tests.reckoned import EVER, all_chains, number, numbers_about, pair, worth

EVERY = (0, 1, 2)
NEVER = ((), (2,), (0, 0))
POLE = ((2, 5, (0, 0, 9, 0), STILL), (2, 5, (0, 0, 9, 0), STILL))
WIDE = (0, (0, 1, 2))
# All of ROW at 2/3, where nobody has room.
FULL = (((-2, 1), (0, 1)), ((2, 1), (0, 1)), ((6, 1), (0, 1)))


def shared(one, other, part):
    """What is so far between two STANDINGS for all NAMES, part from 0 to 1."""
    return tuple([tuple([pair(worth(x) + part * (worth(y) - worth(x))) for x, y in zip(*two)]) for two in zip(one, other)])


class TestComing(Calls):
    def test_as_told(self):
        for lot, told in ((EVERY, (2, 3)), ((0, 2), (0, 1)), ((1,), (0, 1)), ((), (0, 1))):
            self.told(told, coming, ROW, BESIDE, lot)
        self.told(None, coming, ROW, NEVER, (0, 1))
        self.told(None, coming, ROW, NEVER, EVERY)
        self.told((0, 1), coming, ROW, NEVER, (1, 2))
        self.told(None, coming, POLE, ((), (1,)), (0, 1))
        self.told((2, 9), coming, POLE, ((), (0,)), (0, 1))
        self.told((0, 1), coming, ROW[:1], ((),), (0,))

    def test_just_at_just_below_and_just_above(self):
        for scale, told in (((2, 3), True), ((3, 5), False), ((333333, 500000), False), ((666667, 10 ** 6), True)):
            self.told(told, can_stand, ROW, BESIDE, EVERY, scale)
        for scale in ((1, 10 ** 12), (1, 1), (10 ** 12, 1)):
            self.told(True, can_stand, ROW, BESIDE, (0, 2), scale)
            self.told(True, can_stand, ROW, NEVER, (), scale)
            self.told(False, can_stand, ROW, NEVER, (0, 1), scale)
            self.told(False, can_stand, POLE, ((), (1,)), (0, 1), scale)

    def test_beside_all_chains(self):
        for chart, sides, lot in some_maps(101, 150):
            first = reckoned.coming(chart, sides, lot)
            self.told(pair(first), coming, chart, sides, lot)
            for scale in numbers_about([first]):
                self.assertIs(can_stand(chart, sides, lot, pair(scale)), first <= scale)
            part = lot[::2]
            self.assertLessEqual(worth(coming(chart, sides, part)), worth(coming(chart, sides, lot)))

    def test_parts_sides_of_others_and_rows(self):
        for chart, sides, lot in some_maps(102, 150):
            every = tuple(range(len(chart)))
            if lot:
                alone = (part_of(chart, lot), part_sides(sides, lot), every[:len(lot)])
                self.assertEqual(coming(*alone), coming(chart, sides, lot))
            for axis in (0, 1):
                if lot and is_row(sides, axis, lot):
                    row = (axis, in_row(chart, sides, axis, lot))
                    self.assertIn(row, all_chains(chart, sides, lot))
                    self.assertGreaterEqual(worth(coming(chart, sides, lot)), number(chart, row))
            for one, other in itertools.combinations(every, 2):
                for side in (0, 1, 2):
                    new = with_side(sides, one, other, side)
                    if one not in lot or other not in lot:
                        self.assertEqual(coming(chart, new, lot), coming(chart, sides, lot))

    def test_the_rule_of_two_lets_both_come_first(self):
        for chart, _, _ in some_maps(103, 80):
            rule = by_rule(chart)
            for one, other in itertools.combinations(range(len(chart)), 2):
                told = [coming(chart, with_side(rule, one, other, side), (one, other)) for side in (0, 1)]
                self.assertEqual(worth(coming(chart, rule, (one, other))), min(map(worth, told)))

    def test_maps_moved_spread_sized_and_turned(self):
        for chart, sides, lot in some_maps(104, 60):
            first, back = coming(chart, sides, lot), tuple([len(chart) - 1 - name for name in lot[::-1]])
            self.assertEqual(coming(map_moved(chart, 7, -9), sides, lot), first)
            self.assertEqual(coming(turned(chart), sides_turned(sides), back), first)
            for many in (2, 10 ** 6):
                self.assertEqual(worth(coming(spread(chart, many), sides, lot)) * (many if first else 1), worth(first))
                self.assertEqual(worth(coming(sized(chart, many), sides, lot)), worth(first) * many)

    def test_sixteen_names(self):
        picked = random.Random(105)
        every = tuple(range(16))
        for _ in range(3):
            chart = drawn_map(picked, 16)
            for sides in (by_rule(chart), drawn_sides(picked, 16, (0, 1))):
                first = coming(chart, sides, every)
                for scale in (numbers_about([worth(first)]) if first else [fractions.Fraction(1, 3)]):
                    if can_stand(chart, sides, every, pair(scale)):
                        told = least_standing(chart, sides, every, pair(scale))
                        self.same(told, reckoned.least_places(chart, sides, every, scale))
                        self.assertTrue(reckoned.is_standing(chart, sides, every, scale, told))
                    else:
                        self.judged(is_why_not, [why_not(chart, sides, every, pair(scale))], (), chart, sides, every, pair(scale))


class TestWhyNot(Calls):
    def test_as_told(self):
        self.told(WIDE, why_not, ROW, BESIDE, EVERY, (1, 2))
        self.told((0, 1), why_not, ROW, NEVER, (0, 1), (9, 1))
        self.told((1, (0, 1)), why_not, POLE, ((), (1,)), (0, 1), (10 ** 12, 1))
        self.told((2, 3), why_not, TOWN, RULE, (2, 3), (1, 1))
        for lot, scale in (((0, 2), (1, 2)), (EVERY, (2, 3)), (EVERY, (1, 1)), ((), (1, 9)), ((1,), (1, 9))):
            self.refused(CanNot, {}, why_not, ROW, BESIDE, lot, scale)

    def test_things(self):
        no = [(0, (0, 1)), (0, (1, 2)), (0, (2, 1, 0)), (1, (0, 1, 2)), (1, (0,)), [0, (0, 1, 2)], (0, [0, 1, 2])]
        no += [(False, (0, 1, 2)), (0, (False, True, 2)), (0, (False, 1, 2)), (0, 1), (0, 2), WIDE + (0,), (WIDE,), WIDE[1]]
        no += [(0, (0, 1, 2, 3)), (0, (-3, 1, 2)), (None, (0, 1, 2)), ("0", (0, 1, 2)), (0, nested(99, tuple)), *THINGS]
        self.judged(is_why_not, [WIDE], no, ROW, BESIDE, EVERY, (1, 2))
        self.judged(is_why_not, [WIDE], no, ROW, BESIDE, EVERY, (665, 999))
        # From the COMING on nothing is one, nor for a LOT that lacks one of its NAMES.
        for lot, scale in ((EVERY, (2, 3)), (EVERY, (9, 1)), ((0, 2), (1, 2)), ((0, 1), (1, 2)), ((), (1, 2))):
            self.judged(is_why_not, (), [WIDE, *no], ROW, BESIDE, lot, scale)

    def test_bans(self):
        no = [(1, 0), [0, 1], (False, 1), (0, True), (0, 2), (1, 2), (0, 1, 2), (0,), (2, 0), ((0, 1),), (0, 3), (-3, 1), (0, None)]
        no += unlike(THINGS, [])
        self.judged(is_why_not, [(0, 1)], no, ROW, NEVER, EVERY, (9, 1))
        self.judged(is_why_not, [(0, 1)], no, ROW, NEVER, (0, 1), (10 ** 12, 1))
        self.judged(is_why_not, (), [(0, 1), *no], ROW, NEVER, (0, 2), (9, 1))
        # A BAN and a CHAIN, both of one LOT.
        self.judged(is_why_not, [(2, 3), (0, (3, 0, 1))], [(0, (0, 1)), (3, 2), (0, 3)], TOWN, RULE, (0, 1, 2, 3), (1, 1))

    def test_beside_all_chains_and_bans(self):
        for chart, sides, lot in some_maps(106, 60, 4):
            first = reckoned.coming(chart, sides, lot)
            every = range(len(chart))
            rows = [(axis, names) for axis in (0, 1) for many in (1, 2, 3) for names in itertools.product(every, repeat=many)]
            pairs = list(itertools.product(range(-1, len(chart) + 1), repeat=2))
            for scale in (numbers_about([first])[1:4] if first != EVER else [fractions.Fraction(5)]):
                right = [chain for chain in all_chains(chart, sides, lot) if number(chart, chain) > scale]
                right += [ban for ban in bans(sides) if set(ban) <= set(lot)]
                told = [own for own in rows + pairs if is_why_not(chart, sides, lot, pair(scale), own)]
                self.assertEqual(sorted(map(repr, told)), sorted([repr(own) for own in right if not isinstance(own[1], tuple) or len(own[1]) < 4]))
                if right:
                    self.assertIn(why_not(chart, sides, lot, pair(scale)), right)
                    self.told(why_not(chart, sides, lot, pair(scale)), why_not, chart, sides, lot, pair(scale))
                else:
                    self.refused(CanNot, {}, why_not, chart, sides, lot, pair(scale))


class TestStanding(Calls):
    def test_as_told(self):
        self.told(FULL, least_standing, ROW, BESIDE, EVERY, (2, 3))
        self.told(FULL, greatest_standing, ROW, BESIDE, EVERY, (2, 3))
        self.told(FULL, standing, ROW, BESIDE, EVERY, (2, 3))
        still = (0, 1)
        self.told((((-2, 1), still), ((2, 1), still), ((6, 1), still)), least_standing, ROW, BESIDE, EVERY, (1, 1))
        self.told((((0, 1), still), ((4, 1), still), ((8, 1), still)), greatest_standing, ROW, BESIDE, EVERY, (1, 1))
        self.told((((1, 2), still),), least_standing, ROW, BESIDE, (1,), (5, 6))
        self.told((((9, 2), still),), greatest_standing, ROW, BESIDE, (1,), (5, 6))

    def test_who_can_not_stand(self):
        for function in (standing, least_standing, greatest_standing):
            self.told((), function, ROW, BESIDE, (), (1, 2))
            self.told((), function, ROW, NEVER, (), (10 ** 12, 1))
            for scale in ((1, 2), (1, 10 ** 12), (666666, 10 ** 6)):
                self.refused(CanNot, {}, function, ROW, BESIDE, EVERY, scale)
            self.refused(CanNot, {}, function, ROW, NEVER, EVERY, (10 ** 12, 1))
            self.refused(CanNot, {}, function, POLE, ((), (1,)), (0, 1), (10 ** 12, 1))

    def test_beside_plain_ones(self):
        for chart, sides, lot in some_maps(107, 120):
            first = reckoned.coming(chart, sides, lot)
            for scale in numbers_about([first]):
                call = (chart, sides, lot, pair(scale))
                if scale < first:
                    self.assertRaises(CanNot, least_standing, *call)
                    self.assertRaises(CanNot, greatest_standing, *call)
                    continue
                low, high = reckoned.least_places(chart, sides, lot, scale), reckoned.greatest_places(chart, sides, lot, scale)
                self.same(least_standing(*call), low)
                self.same(greatest_standing(*call), high)
                for own in (low, high, standing(*call), shared(low, high, fractions.Fraction(2, 7))):
                    self.assertTrue(reckoned.is_standing(chart, sides, lot, scale, own))
                    self.assertIs(is_standing(*call, own), True)
            if first != EVER:
                self.told(low, least_standing, *call)
                self.told(high, greatest_standing, *call)
                self.told(standing(*call), standing, *call)

    def test_things(self):
        own = (((-2, 1), (0, 1)), ((7, 2), (0, 1)))
        no = [as_lists(own), list(own), mixed(own), own[:1], own + own[:1], own[::-1], (), (own,), ((own[0], own[1]),)]
        for place in range(2):
            x = own[place][0]
            for new in (x[:1], x + (1,), list(x), (x[0] * 2, x[1] * 2), (-x[0], -x[1]), (True, x[1]), (x[0], True), x[0], (x[0], 0)):
                no.append(put(own, place, (new, (0, 1))))
                no.append(put(own, place, (x, new)))
            no += [put(own, place, new) for new in (x, (x,), (x, (0, 1), (0, 1)), [x, (0, 1)], (x, (0, 2)), (x, (0, -1)), (x, 0))]
            no += [put(own, place, thing) for thing in THINGS] + [put(own, place, (thing, (0, 1))) for thing in THINGS]
            no += [put(own, place, (x, thing)) for thing in unlike(THINGS, [])]
        keep = put(own, 1, ((5, 2), (0, 1)))
        self.judged(is_standing, [own, keep], no + list(THINGS), ROW, BESIDE, (0, 2), (1, 2))
        self.judged(is_standing, [()], unlike(THINGS, [()]) + [((),), own], ROW, BESIDE, (), (1, 2))
        # They stand as far apart as their tethers let them, and would cover one another.
        self.judged(is_standing, (), [(((-2, 1), (0, 1)), ((1, 1), (0, 1))), (((-2, 1), (0, 1)), ((11, 2), (0, 1)))], ROW, BESIDE, (0, 2), (1, 2))

    def test_ends_of_tethers_and_boxes_that_touch(self):
        flat = (0, 1)
        for x, told in (((-2, 1), True), ((-201, 100), False), ((2, 1), True), ((201, 100), False), ((0, 1), True)):
            own = ((x, flat),)
            self.judged(is_standing, [own] if told else [], [] if told else [own], ROW, BESIDE, (0,), (1, 7))
        for x, told in (((2, 1), True), ((199, 100), False), ((201, 100), True)):
            self.judged(is_standing, [(((-2, 1), flat), (x, flat))] if told else [], [] if told else [(((-2, 1), flat), (x, flat))],
                        ROW, BESIDE, (0, 1), (2, 3))
        # Down, too; and with a BAN there is none, however far they stand.
        tall = ((1, 3, STILL, (0, 0, 9, 0)), (1, 3, STILL, (0, 0, 9, 0)))
        own = ((flat, flat), (flat, (3, 1)))
        self.judged(is_standing, [own], [((flat, flat), (flat, (29, 10))), own[::-1]], tall, ((), (1,)), (0, 1), (1, 1))
        self.judged(is_standing, (), [own], tall, ((), (0,)), (0, 1), (1, 1))
        self.judged(is_standing, (), [own], tall, ((), (2,)), (0, 1), (1, 1))

    def test_drawn_places(self):
        picked = random.Random(108)
        told = []
        for chart, sides, lot in some_maps(109, 150):
            scale = fractions.Fraction(picked.randrange(1, 30), picked.randrange(1, 9))
            for _ in range(4):
                places = []
                for name in lot:
                    ends = [reckoned.ends_of(chart[name], axis, scale) for axis in (0, 1)]
                    places.append(tuple([pair(low + (high - low) * picked.choice((0, 1, fractions.Fraction(1, 3))) + picked.choice((0, 0, 0, 0, 0, 0, 1)))
                                         for low, high in ends]))
                own = tuple(places)
                told.append(is_standing(chart, sides, lot, pair(scale), own))
                self.assertIs(told[-1], reckoned.is_standing(chart, sides, lot, scale, own))
        self.assertGreater(min(told.count(True), told.count(False)), 50)

    def test_what_is_between_is_one_at_the_scale_between(self):
        part = fractions.Fraction(3, 8)
        for chart, sides, lot in some_maps(110, 100):
            first = reckoned.coming(chart, sides, lot)
            if first != EVER:
                low, high = max(first, fractions.Fraction(1, 5)), first + 3
                ends = (least_standing(chart, sides, lot, pair(low)), greatest_standing(chart, sides, lot, pair(high)))
                own = shared(*ends, part)
                self.assertIs(is_standing(chart, sides, lot, pair(low + part * (high - low)), own), True)

    def test_turned_half_round(self):
        for chart, sides, lot in some_maps(111, 60):
            first = reckoned.coming(chart, sides, lot)
            if first != EVER:
                scale, last = pair(first + 1), len(chart) - 1
                there = least_standing(turned(chart), sides_turned(sides), tuple([last - name for name in lot[::-1]]), scale)
                own = greatest_standing(chart, sides, lot, scale)
                self.same(there, tuple([place_turned(chart, name, place) for name, place in zip(lot, own)])[::-1])

    def test_what_is_returned_is_passed_in_again(self):
        chart = sized(spread(TOWN, 10 ** 6), 10 ** 12)
        first = coming(chart, RULE, (0, 1, 2))
        own = least_standing(chart, RULE, (0, 1, 2), first)
        self.judged(is_standing, [own], [as_lists(own)], chart, RULE, (0, 1, 2), first)
        near = (first[0] * 10 ** 12 - 1, first[1] * 10 ** 12)
        self.refused(CanNot, {}, standing, chart, RULE, (0, 1, 2), pair(fractions.Fraction(*near)))
