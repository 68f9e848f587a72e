"""Maps [7]: what is one, where names may stand, and maps turned, moved, spread, sized."""

import fractions
import itertools
import random

from glidenames.errors import CanNot, NoPlace, TooMuch
from glidenames.fractions import is_fraction
from glidenames.maps import (
    box_at, do_cover, is_map, is_name, is_tether, joined, lets, map_moved, map_of, part_of,
    place_turned, sized, sides_turned, spread, stretch_at, turned,
)
from glidenames.pages import page_moved, page_spread, tie_of
from glidenames.sides import is_sides, stands_above, stands_left
from glidenames.styles import size_of, tethers_of
from tests.drawn import ROW, STILL, TOWN, drawn_lot, drawn_map, drawn_page, drawn_sides, drawn_styles
from tests.kit import NO_NUMBERS, NUMBERS, THINGS, Calls, as_lists, nested, put, unlike
from tests.reckoned import EVER, coming, is_standing, least_places, pair, worth

PLAIN = (3, (("i", 1), ("m", 5)), 1, 6, 2, 40, "middle", 2, 5)
SIDE = (2, (), 0, 4, 1, 100, "right", 3, 9)
WRONG = (-1, -3, 10 ** 6, -10 ** 6, 10 ** 30)


class TestIsTether(Calls):
    def test_tethers(self):
        yes = [STILL, (0, -3, 0, 3), (0, 3, 0, -3), (-5, -7, 5, 8), (-9, 0, -9, 0), (0, 10 ** 400, 0, -10 ** 400)]
        no = [(0, -3, 0, 2), (1, 0, 0, 0), (0, 0, -1, 9), (0, 3, 0, -4), (-4, 0, -5, 0), (10 ** 400, 0, 0, 0)]
        no += [STILL[:3], STILL + (0,), list(STILL), (STILL,), (0, 0, (0, 0)), (True, 0, 1, 0), (0, 0, True, 0)]
        self.judged(is_tether, yes, no + unlike(THINGS, [STILL]))
        for place, thing in itertools.product(range(4), NO_NUMBERS):
            self.judged(is_tether, (), [put((0, 2, 9, 2), place, thing)])

    def test_all_small_numbers(self):
        for tether in itertools.product(range(-2, 3), repeat=4):
            fits = tether[0] <= tether[2] and tether[1] + tether[3] >= 0
            self.judged(is_tether, [tether] if fits else (), () if fits else [tether])


class TestIsName(Calls):
    def test_sizes(self):
        for place, number in itertools.product((0, 1), NUMBERS):
            own = [put(TOWN[0], place, number)]
            self.judged(is_name, own if number > 0 else (), () if number > 0 else own)
        self.judged(is_name, (), [put(TOWN[0], place, thing) for place in (0, 1) for thing in NO_NUMBERS])

    def test_tethers_by_both_axes(self):
        no = [(0, -3, 0, 2), (1, 0, 0, 0), list(STILL), STILL[:3], None, *unlike(THINGS, [STILL])]
        for place in (2, 3):
            yes = [put(TOWN[0], place, tether) for tether in (STILL, (-5, -7, 5, 8))]
            self.judged(is_name, yes, [put(TOWN[0], place, thing) for thing in no])

    def test_too_short_too_long_lists_and_things_of_every_kind(self):
        no = [ROW[0][:3], ROW[0] + (STILL,), list(ROW[0]), as_lists(ROW[0]), ROW, (ROW[0],), *THINGS]
        self.judged(is_name, ROW + TOWN, no)


class TestIsMap(Calls):
    def test_maps(self):
        picked = random.Random(71)
        yes = [ROW, TOWN, ROW[:1], ROW * 100] + [drawn_map(picked, many) for many in range(1, 17)]
        no = [(), [], list(ROW), as_lists(ROW), ROW[0], (ROW,), ROW + (list(ROW[0]),), ROW + (ROW[0][:3],)]
        no += [(thing,) for thing in THINGS] + [ROW + (thing,) for thing in THINGS] + list(THINGS)
        no += [(put(ROW[0], 0, 0),), ROW + (put(ROW[0], 2, (0, -3, 0, 2)),), ROW + (ROW,)]
        self.judged(is_map, yes, no)


class TestMapOf(Calls):
    def test_a_name_for_each_feature(self):
        picked = random.Random(72)
        for many in (1, 1, 2, 3, 5, 16):
            page, styles = drawn_page(picked, many), drawn_styles(picked)
            expected = []
            for own in page:
                size = size_of(styles[own[0]], own[1])
                expected.append((*size, *tethers_of(styles[own[0]], size, tie_of(own))))
            self.told(tuple(expected), map_of, page, styles)
            self.assertIs(is_map(map_of(page, styles)), True)

    def test_each_kind_of_feature(self):
        bend = ((0, 0), (5, 0), (5, 4), (2, 4))
        page = ((1, "top", 0, (3, 4)), (1, "top", 1, (bend, 2, 11)), (1, "top", 2, (10, 20, 14, 21)))
        self.told((
            (6, 4, (3, 0, 3, 3), (4, 5, 4, 1)), (6, 4, (5, 0, 5, 3), (0, 5, 4, 1)), (6, 4, (14, 0, 14, 3), (20, 5, 21, 1)),
        ), map_of, page, (PLAIN, SIDE))

    def test_too_much_ahead_of_a_class_that_is_not_there(self):
        picked = random.Random(73)
        for many in (17, 18, 40):
            page = drawn_page(picked, many)
            self.refused(TooMuch, {}, map_of, page, (PLAIN,) * 3)
            self.refused(TooMuch, {}, map_of, page + ((99, "a", 0, (0, 0)),), (PLAIN,))

    def test_no_features_and_classes_that_styles_do_not_have(self):
        spot = (0, "a", 0, (0, 0))
        self.refused(CanNot, {}, map_of, (), (PLAIN,))
        for group in (1, 2, 10 ** 6):
            own = put(spot, 0, group)
            self.refused(CanNot, {}, map_of, (own,), (PLAIN,))
            self.refused(CanNot, {}, map_of, (spot, own, spot), (PLAIN,))
            self.refused(CanNot, {}, map_of, (own,) * 16, (PLAIN,))
        self.refused(CanNot, {}, map_of, (put(spot, 0, 2),), (PLAIN, SIDE))
        self.assertEqual(len(map_of((put(spot, 0, 1),), (PLAIN, SIDE))), 1)

    def test_of_a_page_moved_and_spread(self):
        picked = random.Random(74)
        for _ in range(40):
            page, styles = drawn_page(picked, 4), drawn_styles(picked)
            across, down, many = picked.randrange(-9, 10), picked.randrange(-9, 10), picked.randrange(1, 7)
            chart = map_of(page, styles)
            self.same(map_of(page_moved(page, across, down), styles), map_moved(chart, across, down))
            self.same(map_of(page_spread(page, many), styles), spread(chart, many))


class TestParts(Calls):
    def test_part_of(self):
        self.told((ROW[0], ROW[2]), part_of, ROW, (0, 2))
        self.told(ROW, part_of, ROW, (0, 1, 2))
        self.told((TOWN[3],), part_of, TOWN, (3,))
        self.refused(CanNot, {}, part_of, ROW, ())

    def test_joined(self):
        self.told(ROW + TOWN, joined, ROW, TOWN)
        self.told(TOWN + ROW, joined, TOWN, ROW)
        many = drawn_map(random.Random(75), 16)
        self.told(many + many, joined, many, many)


class TestTurned(Calls):
    def test_each_number(self):
        self.told((
            (4, 2, (-3, 4, -3, -4), (-1, 2, -1, -2)), (4, 2, (-3, 5, -3, -3), (-1, 3, -1, -1)),
            (4, 2, (-9, 4, -9, -4), (-2, 2, -2, -2)), (6, 2, (-10, 6, 0, -6), (-4, 2, 0, -2)),
        ), turned, TOWN)
        self.told(((4, 1, (0, 6, 0, -2), (0, 1, 0, -1)),), turned, ROW[:1])
        self.told(((), (2,), (0, 1)), sides_turned, ((), (1,), (0, 2)))
        self.told(((),), sides_turned, ((),))
        self.told(((), (1,), (1, 0), (0, 1, 2)), sides_turned, ((), (2,), (1, 0), (0, 1, 1)))

    def test_places(self):
        self.told(((-9, 2), (-1, 1)), place_turned, ROW, 1, ((1, 2), (0, 1)))
        self.told(((-17, 3), (1, 7)), place_turned, TOWN, 1, ((5, 3), (-15, 7)))
        self.told(((0, 1), (0, 1)), place_turned, TOWN, 0, ((-6, 1), (-2, 1)))
        for name in WRONG + (3,):
            self.refused(NoPlace, {"place": name}, place_turned, ROW, name, ((0, 1), (0, 1)))

    def test_twice_turned_all_is_as_before(self):
        picked = random.Random(76)
        for _ in range(60):
            many = picked.randrange(1, 17)
            chart, sides = drawn_map(picked, many), drawn_sides(picked, many)
            self.assertIs(is_map(turned(chart)), True)
            self.assertIs(is_sides(turned(chart), sides_turned(sides)), True)
            self.same(turned(turned(chart)), chart)
            self.same(sides_turned(sides_turned(sides)), sides)
            name, place = picked.randrange(many), ((picked.randrange(-9, 9) * 2 + 1, 4), (picked.randrange(-9, 9), 1))
            self.same(place_turned(turned(chart), many - 1 - name, place_turned(chart, name, place)), place)

    def test_who_stands_left_stands_right(self):
        picked = random.Random(77)
        for _ in range(60):
            chart, sides = drawn_map(picked, 5), drawn_sides(picked, 5)
            back, told = turned(chart), sides_turned(sides)
            for one, other in itertools.permutations(range(5), 2):
                self.assertIs(stands_left(back, told, 4 - other, 4 - one), stands_left(chart, sides, one, other))
                self.assertIs(stands_above(back, told, 4 - other, 4 - one), stands_above(chart, sides, one, other))

    def test_standings_and_comings(self):
        picked = random.Random(78)
        stood = 0
        for _ in range(150):
            chart, sides = drawn_map(picked, 4), drawn_sides(picked, 4, (0, 0, 1, 1))
            back, told = turned(chart), sides_turned(sides)
            lot = drawn_lot(picked, 4)
            there = tuple([3 - name for name in lot[::-1]])
            comes = coming(chart, sides, lot)
            self.assertEqual(coming(back, told, there), comes)
            if comes != EVER:
                stood += 1
                scale = comes + fractions.Fraction(picked.randrange(1, 9), 4)
                standing = least_places(chart, sides, lot, scale)
                self.assertTrue(is_standing(chart, sides, lot, scale, standing))
                placed = tuple([place_turned(chart, name, place) for name, place in zip(lot, standing)])[::-1]
                self.assertTrue(is_standing(back, told, there, scale, placed))
        self.assertGreater(stood, 60)

    def test_greatest_places_are_the_least_ones_turned(self):
        picked = random.Random(79)
        for _ in range(60):
            chart, sides = drawn_map(picked, 4), drawn_sides(picked, 4, (0, 0, 1, 1))
            comes = coming(chart, sides, (0, 1, 2, 3))
            if comes != EVER:
                scale = comes + 1
                least = least_places(turned(chart), sides_turned(sides), (0, 1, 2, 3), scale)
                great = tuple([place_turned(turned(chart), name, least[name]) for name in (3, 2, 1, 0)])
                self.assertTrue(is_standing(chart, sides, (0, 1, 2, 3), scale, great))
                # Nobody can be further, the others being as far as they can be at the most.
                for name, axis in itertools.product(range(4), (0, 1)):
                    further = pair(worth(great[name][axis]) + fractions.Fraction(1, 1000))
                    moved = put(great, name, put(great[name], axis, further))
                    self.assertFalse(is_standing(chart, sides, (0, 1, 2, 3), scale, moved))


class TestMovedSpreadSized(Calls):
    def test_each_number(self):
        own = (6, 2, (-1, 3, 10, -2), (2, -5, 4, 7))
        self.told(((6, 2, (9, 3, 20, -2), (-1, -5, 1, 7)), put(put(ROW[1], 2, (13, 2, 13, 2)), 3, (-3, 0, -3, 0))),
                  map_moved, (own, ROW[1]), 10, -3)
        self.told(((6, 2, (-3, 3, 30, -2), (6, -5, 12, 7)), (4, 1, (9, 2, 9, 2), STILL)), spread, (own, ROW[1]), 3)
        self.told(((18, 6, (-1, 9, 10, -6), (2, -15, 4, 21)), (12, 3, (3, 6, 3, 6), STILL)), sized, (own, ROW[1]), 3)
        self.told(ROW, map_moved, ROW, 0, 0)
        self.told(ROW, spread, ROW, 1)
        self.told(ROW, sized, ROW, 1)

    def test_comings(self):
        picked = random.Random(80)
        for _ in range(80):
            chart, sides, lot = drawn_map(picked, 4), drawn_sides(picked, 4, (0, 0, 1, 1)), drawn_lot(picked, 4)
            many, comes = picked.randrange(1, 6), coming(chart, sides, lot)
            moved = map_moved(chart, picked.randrange(-9, 10), picked.randrange(-9, 10))
            self.assertEqual(coming(moved, sides, lot), comes)
            self.assertEqual(coming(spread(chart, many), sides, lot), comes / many)
            self.assertEqual(coming(sized(chart, many), sides, lot), comes * many)

    def test_what_is_returned_is_passed_in_again(self):
        chart = joined(sized(spread(map_moved(TOWN, 10 ** 6, -10 ** 6), 10 ** 6), 10 ** 6), turned(ROW))
        self.assertIs(is_map(chart), True)
        self.told(chart, turned, turned(chart))
        self.told(((10 ** 12 + 9 * 10 ** 6, 1),) * 2, stretch_at, chart, 1, 0, (1, 1))


class TestStands(Calls):
    def test_stretches(self):
        self.told(((0, 1), (4, 1)), stretch_at, ROW, 1, 0, (2, 3))
        self.told(((-1, 2), (7, 2)), stretch_at, ROW, 2, 0, (1, 4))
        self.told(((0, 1), (0, 1)), stretch_at, ROW, 2, 1, (1, 4))
        self.told(((2, 3), (8, 3)), stretch_at, ((1, 1, STILL, (1, 0, 4, 0)),), 0, 1, (2, 3))
        self.told(((-10 ** 12, 1), (10 ** 12 + 5, 1)), stretch_at,
                  ((1, 1, (-10 ** 6, 0, 10 ** 6, 5), STILL),), 0, 0, (10 ** 6, 1))
        picked = random.Random(81)
        for _ in range(60):
            chart, name, axis = drawn_map(picked, 3), picked.randrange(3), picked.randrange(2)
            scale = fractions.Fraction(picked.randrange(1, 20), picked.randrange(1, 20))
            low, ahead, high, behind = chart[name][2 + axis]
            self.told((pair(scale * low - ahead), pair(scale * high + behind)), stretch_at, chart, name, axis, pair(scale))

    def test_lets(self):
        self.told(True, lets, ROW, 1, (2, 3), ((4, 1), (0, 1)))
        self.told(False, lets, ROW, 1, (2, 3), ((9, 2), (0, 1)))
        own = ((3, 2, (1, 2, 4, 1), (0, 1, 0, 3)),)
        # At 1/2: x from -3/2 to 3, y from -1 to 3.
        xs = (((-8, 5), False), ((-3, 2), True), ((0, 1), True), ((3, 1), True), ((301, 100), False))
        ys = (((-2, 1), False), ((-1, 1), True), ((1, 7), True), ((3, 1), True), ((10, 3), False))
        for (x, across), (y, down) in itertools.product(xs, ys):
            self.told(across and down, lets, own, 0, (1, 2), (x, y))

    def test_boxes(self):
        self.told(((1, 2), (0, 1), (9, 2), (1, 1)), box_at, ROW, 1, ((1, 2), (0, 1)))
        self.told(((-7, 3), (-5, 2), (11, 3), (-1, 2)), box_at, TOWN, 0, ((-7, 3), (-5, 2)))
        for part in box_at(TOWN, 2, ((-7, 3), (-4, 1))):
            self.assertIs(is_fraction(part), True)

    def test_covers(self):
        self.told(False, do_cover, ROW, 0, ((-2, 1), (0, 1)), 1, ((2, 1), (0, 1)))
        self.told(True, do_cover, ROW, 0, ((-2, 1), (0, 1)), 1, ((3, 2), (1, 2)))
        # One of 6 by 2 at 0, 0; the other of 4 by 2 there.
        xs = ((-5, False), (-4, False), (-3, True), (0, True), (2, True), (5, True), (6, False), (7, False))
        ys = ((-3, False), (-2, False), (-1, True), (0, True), (1, True), (2, False), (3, False))
        for (x, across), (y, down) in itertools.product(xs, ys):
            there = ((x, 1), (y, 1))
            self.told(across and down, do_cover, TOWN, 0, ((0, 1), (0, 1)), 1, there)
            self.told(across and down, do_cover, TOWN, 1, there, 0, ((0, 1), (0, 1)))
        self.told(True, do_cover, TOWN, 0, ((0, 1), (0, 1)), 1, ((599, 100), (199, 100)))
        self.told(False, do_cover, TOWN, 0, ((0, 1), (0, 1)), 1, ((6, 1), (199, 100)))

    def test_one_name_at_two_places(self):
        self.told(True, do_cover, TOWN, 0, ((0, 1), (0, 1)), 0, ((0, 1), (0, 1)))
        self.told(True, do_cover, TOWN, 0, ((0, 1), (0, 1)), 0, ((11, 2), (-3, 2)))
        self.told(False, do_cover, TOWN, 0, ((0, 1), (0, 1)), 0, ((6, 1), (0, 1)))

    def test_names_that_are_none(self):
        place = ((0, 1), (0, 1))
        for name in WRONG + (3,):
            kept = {"place": name}
            for axis in (0, 1):
                self.refused(NoPlace, kept, stretch_at, ROW, name, axis, (1, 1))
            self.refused(NoPlace, kept, lets, ROW, name, (1, 1), place)
            self.refused(NoPlace, kept, lets, ROW, name, (1, 1), ((99, 1), (99, 1)))
            self.refused(NoPlace, kept, box_at, ROW, name, place)
            self.refused(NoPlace, kept, do_cover, ROW, name, place, 0, place)
            self.refused(NoPlace, kept, do_cover, ROW, 0, place, name, place)
            self.refused(NoPlace, kept, do_cover, ROW, name, place, 77, place)
            self.refused(NoPlace, {"place": 77}, do_cover, ROW, 77, place, name, place)
        self.refused(NoPlace, {"place": 1}, box_at, ROW[:1], 1, place)
        self.refused(NoPlace, {"place": 16}, box_at, drawn_map(random.Random(82), 16), 16, place)

    def test_deep_things_are_no_maps(self):
        self.judged(is_map, (), [nested(99, tuple), (nested(98, list),), (ROW[0], nested(97, tuple))])
