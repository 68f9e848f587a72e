"""Pages [6]: what is one, and ways held against all their spots, gone through one by one."""

import itertools
import random

from glidenames.errors import CanNot
from glidenames.pages import (
    inside, is_area, is_feature, is_page, is_way, nearest_on, page_cut, page_frame, page_moved,
    page_spread, pages_joined, piece_of, plain_way, spot_at, tie_of, turned_back, way_length,
)
from tests.drawn import drawn_area, drawn_page, drawn_way
from tests.kit import NO_NUMBERS, NUMBERS, THINGS, Calls, as_lists, nested, put, unlike
from tests.reckoned import walked

BEND = ((0, 0), (5, 0), (5, 4), (2, 4))
# Goes on, turns back over itself, goes through one spot three times.
BACK = ((0, 0), (2, 0), (5, 0), (1, 0), (1, 3), (1, -2), (1, -4), (1, 0), (-1, 0))
BIG = 10 ** 6
WIDE = ((-BIG, -BIG), (BIG, -BIG), (BIG, BIG), (-BIG, BIG), (BIG, BIG), (BIG, 0))
PAGE = (
    (0, "Ford", 0, (3, 4)),
    (1, "Old Road", 1, (BEND, 2, 11)),
    (2, "Moor", 2, (1, 1, 6, 3)),
)


def some_ways(seed, many):
    """Ways of all kinds, each short enough to be gone through."""
    picked = random.Random(seed)
    return [BEND, BACK] + [drawn_way(picked, picked.randrange(2, 9)) for _ in range(many)]


class TestIsWay(Calls):
    def test_ways(self):
        long = tuple([(step // 2, (step + 1) // 2) for step in range(1000)])
        self.judged(is_way, [
            BEND, BACK, WIDE, BEND[:2], ((0, 0), (0, 1)), ((0, 0), (0, -1), (0, 0)), ((5, 5), (4, 5), (5, 5), (4, 5)),
            ((10 ** 400, 0), (-10 ** 400, 0)), long, *some_ways(61, 100),
        ], ())

    def test_corners_alike_or_aslant(self):
        self.judged(is_way, (), [
            ((0, 0), (0, 0)), ((0, 0), (1, 1)), ((0, 0), (1, 0), (1, 0)), ((0, 0), (0, 0), (0, 1)), ((3, 4), (4, 3)),
            BEND + ((3, 5),), ((1, 1),) + BEND, BEND[:2] + BEND[3:], ((0, 0), (10 ** 400, 1)),
        ])

    def test_too_short_lists_and_things_of_every_kind(self):
        no = [(), ((0, 0),), (0, 0), ((0,), (1,)), ((0, 0, 0), (0, 1, 0)), [BEND[0], BEND[1]], as_lists(BEND)]
        no += [((0, 0), [0, 1]), ([0, 0], (0, 1)), ((0, 0), (0, True)), ((0, False), (0, 1)), ((0, 0), (0, "1"))]
        no += [((0, 0), (0, 1), ()), "ab", ("ab", "ac"), ((0, 0), 1), (BEND,), (BEND, BEND), *THINGS]
        self.judged(is_way, (), no)
        for place in range(len(BEND)):
            for thing in unlike(THINGS, [(1, 1)]):
                self.judged(is_way, (), [put(BEND, place, thing)])
            for at, thing in itertools.product((0, 1), NO_NUMBERS):
                self.judged(is_way, (), [put(BEND, place, put(BEND[place], at, thing))])
        # (1, 1) is a SPOT, but aslant from those beside it.
        self.judged(is_way, (), [put(BEND, 1, (1, 1))])


class TestIsArea(Calls):
    def test_areas(self):
        yes = [(0, 0, 0, 0), (-3, 2, -3, 9), (1, 1, 6, 3), (-BIG, -BIG, BIG, BIG), (-10 ** 400, 0, 10 ** 400, 0)]
        no = [(1, 0, 0, 0), (0, 1, 0, 0), (0, 1, 5, 0), (5, 0, 0, 1), (0, 0, -1, 0), (0, 0, 0), (0,) * 5, (0, 0)]
        no += [[0, 0, 0, 0], ([0, 0, 0, 0],), ((0, 0), (0, 0)), (0, 0, 0, True), (False, 0, 0, 0), "0000"]
        self.judged(is_area, yes, no + unlike(THINGS, [(0, 0, 0, 0)]))
        for place, thing in itertools.product(range(4), NO_NUMBERS):
            self.judged(is_area, (), [put((1, 1, 6, 3), place, thing)])


class TestIsFeature(Calls):
    def test_classes(self):
        for number in NUMBERS:
            yes, no = ([number], []) if number >= 0 else ([], [number])
            self.judged(is_feature, [put(own, 0, group) for own in PAGE for group in yes],
                        [put(own, 0, group) for own in PAGE for group in no])
        self.judged(is_feature, (), [put(own, 0, thing) for own in PAGE for thing in NO_NUMBERS])

    def test_texts(self):
        signs = "".join([chr(code) for code in range(32, 127)])
        yes = ["a", "~", "!", "a b", "a b c", "x" * 60, "a " * 29 + "ab", signs[1:60], signs[40:], "0", "-", "words here"]
        no = ["", " ", "a ", " a", "a  b", " a b", "a b ", "  ", "x" * 61, "a " * 30 + "b", "a\nb", "a\tb", "\n", "a\n"]
        no += ["\x1f", "\x7f", "a\x7f", "\u00e9", "a\u00a0b", b"a", ("a",), ["a"], " " * 60, "x" * 10 ** 5, signs[:60]]
        no += unlike(THINGS, ["1", "a", "words here"])
        for own in PAGE:
            self.judged(is_feature, [put(own, 1, text) for text in yes], [put(own, 1, text) for text in no])

    def test_kinds_go_with_what_stands_last(self):
        for own in PAGE:
            no = [put(own, 2, kind) for kind in (0, 1, 2, 3, -1, *NUMBERS) if kind != own[2]]
            no += [put(own, 2, thing) for thing in NO_NUMBERS] + [put(own, 2, bool(own[2]))]
            no += [put(own, 2, nested(1, tuple)), put(own, 2, str(own[2])), put(own, 2, None)]
            self.judged(is_feature, [own], no)

    def test_spots(self):
        spot = PAGE[0]
        yes = [(0, 0), (-BIG, BIG), (10 ** 400, -10 ** 400), (1, 1)]
        no = [(1, True), (False, 0), (1, 2, 3), (1,), (), [3, 4], ((3, 4),), "34", 3, None, (3, 4, 3, 4)]
        no += unlike(THINGS, yes)
        self.judged(is_feature, [put(spot, 3, where) for where in yes], [put(spot, 3, where) for where in no])

    def test_numbers_along_a_way(self):
        way = PAGE[1]
        for first, last in itertools.product(range(-2, 15), repeat=2):
            fits = 0 <= first <= last <= 12
            own = [put(way, 3, (BEND, first, last))]
            self.judged(is_feature, own if fits else (), () if fits else own)
        far = 2 * BIG * 4 + BIG
        self.judged(is_feature, [put(way, 3, (WIDE, far, far))], [put(way, 3, (WIDE, far, far + 1))])

    def test_ways_that_are_none(self):
        no = [(BEND, 2), (BEND,), (BEND, 2, 11, 11), BEND, [BEND, 2, 11], (list(BEND), 2, 11), (as_lists(BEND), 2, 11)]
        no += [(BEND[:1], 0, 0), ((), 0, 0), (((0, 0), (1, 1)), 0, 0), (BEND, True, 2), (BEND, 0, True), (BEND, "0", "1")]
        no += [(thing, 0, 0) for thing in THINGS] + [(BEND, thing, 12) for thing in NO_NUMBERS]
        no += [(BEND, 0, thing) for thing in NO_NUMBERS] + list(THINGS)
        self.judged(is_feature, (), [put(PAGE[1], 3, where) for where in no])

    def test_areas(self):
        yes = [(0, 0, 0, 0), (-BIG, -BIG, BIG, BIG)]
        no = [(1, 0, 0, 0), (0, 1, 0, 0), [0, 0, 0, 0], (0, 0, 0), (0, 0, 0, True), *unlike(THINGS, yes)]
        self.judged(is_feature, [put(PAGE[2], 3, where) for where in yes], [put(PAGE[2], 3, where) for where in no])

    def test_too_short_too_long_lists_and_things_of_every_kind(self):
        no = [PAGE[0][:3], PAGE[0] + (1,), list(PAGE[0]), as_lists(PAGE[1]), PAGE, (PAGE[0],), *THINGS]
        self.judged(is_feature, (), no)


class TestIsPage(Calls):
    def test_pages(self):
        picked = random.Random(66)
        yes = [(), PAGE, PAGE[:1], PAGE * 100] + [drawn_page(picked, many) for many in range(20)]
        no = [[], list(PAGE), as_lists(PAGE), PAGE[0], (PAGE,), PAGE + (list(PAGE[0]),), PAGE + (PAGE[0][:3],)]
        no += [(thing,) for thing in THINGS] + [PAGE + (thing,) for thing in THINGS] + unlike(THINGS, [()])
        no += [(put(PAGE[0], 1, "a "),), PAGE + (put(PAGE[1], 3, (BEND, 0, 13)),)]
        self.judged(is_page, yes, no)


class TestWays(Calls):
    def test_the_spot_at_each_number(self):
        for way in some_ways(62, 60):
            spots = walked(way)
            self.told(len(spots) - 1, way_length, way)
            for far, spot in enumerate(spots):
                self.told(spot, spot_at, way, far)
            for far in (-1, len(spots), -BIG, BIG):
                self.refused(CanNot, {}, spot_at, way, far)

    def test_each_piece(self):
        for way in some_ways(63, 12):
            spots = walked(way)
            for first, last in itertools.combinations_with_replacement(range(len(spots)), 2):
                piece = piece_of(way, first, last)
                self.same(walked(piece), spots[first:last + 1])
                begins = [sum([abs(x - u) + abs(y - v) for (x, y), (u, v) in zip(way[:k + 1], way[1:k + 1])])
                          for k in range(len(way))]
                between = [corner for begin, corner in zip(begins, way) if first < begin < last]
                ends = [spots[first]] if first == last else [spots[first], *between, spots[last]]
                self.same(piece, tuple(ends))

    def test_at_u_of_a_piece_is_what_is_at_first_and_u(self):
        for way in some_ways(64, 30):
            length = way_length(way)
            for first, last in ((0, length), (1, length), (length // 3, length - 1), (0, 1)):
                if first < last:
                    piece = piece_of(way, first, last)
                    self.assertIs(is_way(piece), True)
                    self.assertEqual(way_length(piece), last - first)
                    for u in range(last - first + 1):
                        self.same(spot_at(piece, u), spot_at(way, first + u))

    def test_pieces_in_all_forms_and_those_that_are_none(self):
        self.told(((2, 0), (5, 0), (5, 4), (3, 4)), piece_of, BEND, 2, 11)
        self.told(BEND, piece_of, BEND, 0, 12)
        self.told(((0, 0), (5, 0)), piece_of, BEND, 0, 5)
        self.told(((5, 0), (5, 4)), piece_of, BEND, 5, 9)
        for far, spot in ((0, (0, 0)), (5, (5, 0)), (7, (5, 2)), (12, (2, 4))):
            self.told((spot,), piece_of, BEND, far, far)
        for first, last in ((-1, 5), (-2, -1), (-1, -1), (5, 13), (13, 13), (12, 13), (6, 5), (12, 0), (0, -1), (13, 0)):
            self.refused(CanNot, {}, piece_of, BEND, first, last)

    def test_turned_back(self):
        self.told(((2, 4), (5, 4), (5, 0), (0, 0)), turned_back, BEND)
        for way in some_ways(65, 30):
            self.told(tuple(list(way)[::-1]), turned_back, way)
            self.same(walked(turned_back(way)), walked(way)[::-1])
            self.same(turned_back(turned_back(way)), way)

    def test_plain_ways(self):
        self.told(((0, 0), (5, 0), (1, 0), (1, 3), (1, -4), (1, 0), (-1, 0)), plain_way, BACK)
        self.told(((0, 0), (9, 0)), plain_way, ((0, 0), (1, 0), (4, 0), (9, 0)))
        self.told(((0, 0), (1, 0), (0, 0), (1, 0)), plain_way, ((0, 0), (1, 0), (0, 0), (1, 0)))
        self.told(((0, 7), (0, -7)), plain_way, ((0, 7), (0, 0), (0, -7)))
        self.told(BEND[:2], plain_way, BEND[:2])
        for way in some_ways(66, 60):
            spots = walked(way)
            plain = plain_way(way)
            self.same(walked(plain), spots)
            ways = [(x - u, y - v) for (x, y), (u, v) in zip(spots[1:], spots)]
            turns = [spot for spot, come, go in zip(spots[1:], ways, ways[1:]) if come != go]
            self.told((spots[0], *turns, spots[-1]), plain_way, way)

    def test_nearest(self):
        picked = random.Random(67)
        for way in some_ways(68, 60):
            spots = walked(way)
            for spot in [(picked.randrange(-15, 16), picked.randrange(-15, 16)) for _ in range(6)] + [spots[-1]]:
                tries = [(abs(x - spot[0]) + abs(y - spot[1]), far) for far, (x, y) in enumerate(spots)]
                self.told(min(tries), nearest_on, way, spot)

    def test_inside(self):
        picked = random.Random(69)
        for way in some_ways(70, 80):
            spots = walked(way)
            for west, north, east, south in [drawn_area(picked) for _ in range(5)] + [(-99, -99, 99, 99)]:
                within = [west <= x <= east and north <= y <= south for x, y in spots]
                firsts = [far for far in range(len(spots)) if within[far] and (far == 0 or not within[far - 1])]
                lasts = [far for far in range(len(spots)) if within[far] and not within[far + 1:far + 2] == [True]]
                self.told(list(zip(firsts, lasts)), inside, way, (west, north, east, south))

    def test_inside_of_one_spot_and_at_corners(self):
        self.told([(5, 5)], inside, BEND, (5, 0, 5, 0))
        self.told([(0, 0)], inside, BEND, (-3, -3, 0, 0))
        self.told([(12, 12)], inside, BEND, (2, 4, 2, 9))
        self.told([], inside, BEND, (0, 1, 4, 3))
        self.told([(1, 1), (9, 9), (15, 15), (19, 19)], inside, BACK[:4] + ((1, 3), (1, -2), (1, 0)), (1, 0, 1, 0))

    def test_numbers_to_their_bounds(self):
        length = 9 * BIG
        self.told(length, way_length, WIDE)
        self.told((BIG, BIG - 7), spot_at, WIDE, 4 * BIG - 7)
        self.told((BIG, 0), spot_at, WIDE, length)
        self.refused(CanNot, {}, spot_at, WIDE, length + 1)
        self.told((0, BIG), nearest_on, WIDE, (0, -BIG))
        self.told((BIG, BIG), nearest_on, WIDE, (0, 0))
        self.told([(2 * BIG, 4 * BIG), (8 * BIG, length)], inside, WIDE, (BIG, -BIG, BIG, BIG))
        many = tuple([(step // 2 * BIG, (step + 1) // 2 * BIG) for step in range(40)])
        self.told(39 * BIG, way_length, many)
        self.told((19 * BIG, 20 * BIG), spot_at, many, 39 * BIG)


class TestPages(Calls):
    def test_ties(self):
        picked = random.Random(71)
        for own in drawn_page(picked, 300):
            spots = [own[3]]
            if own[2] == 1:
                spots = walked(own[3][0])[own[3][1]:own[3][2] + 1]
            if own[2] == 2:
                spots = [own[3][:2], own[3][2:]]
            easts, souths = [x for x, y in spots], [y for x, y in spots]
            self.told((min(easts), min(souths), max(easts), max(souths)), tie_of, own)

    def test_ties_of_one_spot_and_of_a_piece(self):
        self.told((3, 4, 3, 4), tie_of, PAGE[0])
        self.told((2, 0, 5, 4), tie_of, PAGE[1])
        self.told((1, 1, 6, 3), tie_of, PAGE[2])
        self.told((5, 2, 5, 2), tie_of, put(PAGE[1], 3, (BEND, 7, 7)))
        self.told((0, 0, 0, 0), tie_of, put(PAGE[1], 3, (BEND, 0, 0)))
        self.told((2, 4, 2, 4), tie_of, put(PAGE[1], 3, (BEND, 12, 12)))
        self.told((7, -7, 7, -7), tie_of, put(PAGE[2], 3, (7, -7, 7, -7)))

    def test_frame(self):
        picked = random.Random(72)
        for many in range(1, 12):
            page = drawn_page(picked, many)
            wests, norths, easts, souths = zip(*[tie_of(own) for own in page])
            self.told((min(wests), min(norths), max(easts), max(souths)), page_frame, page)
        self.told((3, 4, 3, 4), page_frame, PAGE[:1])
        self.refused(CanNot, {}, page_frame, ())

    def test_cut(self):
        picked = random.Random(73)
        for _ in range(60):
            page, area = drawn_page(picked, 8), drawn_area(picked)
            kept = []
            for own in page:
                west, north, east, south = tie_of(own)
                spots = itertools.product(range(west, east + 1), range(north, south + 1))
                if any([area[0] <= x <= area[2] and area[1] <= y <= area[3] for x, y in spots]):
                    kept.append(own)
            self.told(tuple(kept), page_cut, page, area)
        self.told((), page_cut, (), (0, 0, 9, 9))
        # The TIE of the way counts, not whether the way goes through the area.
        self.told(PAGE[1:], page_cut, PAGE, (3, 2, 3, 3))
        self.told(PAGE[:2], page_cut, PAGE, (3, 4, 3, 4))

    def test_joined(self):
        picked = random.Random(74)
        for one, other in ((0, 0), (0, 3), (3, 0), (2, 5), (40, 40)):
            page, more = drawn_page(picked, one), drawn_page(picked, other)
            self.told(page + more, pages_joined, page, more)
        self.told(PAGE + PAGE, pages_joined, PAGE, PAGE)

    def test_moved_and_spread(self):
        self.told((
            (0, "Ford", 0, (13, 0)), (1, "Old Road", 1, (((10, -4), (15, -4), (15, 0), (12, 0)), 2, 11)),
            (2, "Moor", 2, (11, -3, 16, -1)),
        ), page_moved, PAGE, 10, -4)
        self.told((
            (0, "Ford", 0, (9, 12)), (1, "Old Road", 1, (((0, 0), (15, 0), (15, 12), (6, 12)), 6, 33)),
            (2, "Moor", 2, (3, 3, 18, 9)),
        ), page_spread, PAGE, 3)
        self.told((), page_moved, (), 1, 2)
        self.told((), page_spread, (), 7)
        self.told(PAGE, page_moved, PAGE, 0, 0)
        self.told(PAGE, page_spread, PAGE, 1)

    def test_ties_are_moved_and_spread(self):
        picked = random.Random(75)
        for _ in range(60):
            page = drawn_page(picked, 5)
            across, down, many = picked.randrange(-9, 10), picked.randrange(-9, 10), picked.randrange(1, 6)
            moved, wide = page_moved(page, across, down), page_spread(page, many)
            self.assertIs(is_page(moved), True)
            self.assertIs(is_page(wide), True)
            for own, there, far in zip(page, moved, wide):
                west, north, east, south = tie_of(own)
                self.same(tie_of(there), (west + across, north + down, east + across, south + down))
                self.same(tie_of(far), (west * many, north * many, east * many, south * many))
                self.same((there[:3], far[:3]), (own[:3], own[:3]))

    def test_what_is_returned_is_passed_in_again(self):
        page = PAGE
        for _ in range(5):
            page = page_spread(pages_joined(page, page_moved(page, BIG, -BIG)), BIG)
        self.assertIs(is_page(page), True)
        self.assertEqual(len(page), 96)
        self.told(page, page_cut, page, page_frame(page))
