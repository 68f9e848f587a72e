"""Views [19]: what windows show, beside all cells and all tiles one by one, and scales before, at and behind each end."""

import fractions
import itertools
import random

from glidenames.books import shown
from glidenames.errors import CanNot, NoPlace, TooMuch
from glidenames.glides import glide, is_glide, standing_at
from glidenames.maps import box_at, sized, spread
from glidenames.stands import can_stand
from glidenames.views import (
    by_tiles, cut_at, is_view, least_view, picture, seen, seen_spans, tiles_under, window,
)
from tests.drawn import BESIDE, ROW, STILL, some_loose, some_maps
from tests.kit import THINGS, Calls, as_lists, nested, put, unlike
from tests.reckoned import pair, worth
from tests.test_glides import drawn_standing, plain_at, some_glides

ALL, FLAT, TWO_THIRDS, ONE = (0, 1, 2), (0, 1), (2, 3), (1, 1)
STAND = (((-2, 1), FLAT), ((2, 1), FLAT), ((6, 1), FLAT))
FAR = ((FLAT, FLAT), ((6, 1), FLAT), ((12, 1), FLAT))
WIDE, LOW, NEAR = (3, 0, 8, 2), (2, 0, 5, 1), (3, 0, 2, 2)
BOOK, WAY = ((0, 1), (2, 3), (0, 1)), ((TWO_THIRDS, STAND), ((2, 1), FAR))
WRONG = (-1, -3, 3, 10 ** 6)
HALF = fractions.Fraction(1, 2)
SIGNS = "0123456789abcdefghijklmnopqrstuvwxyz"


def drawn_view(picked):
    """A VIEW, often a little one."""
    return (picked.randrange(-3, 8), picked.randrange(-3, 6), picked.choice((1, 2, 3, 5, 8, 13)), picked.choice((1, 2, 3, 4, 7)))


def some_standings(seed, many, most=5):
    """Sextuples of a MAP, SIDES, a LOT, a STANDING of it, a VIEW and the SCALE."""
    picked = random.Random(seed)
    for chart, sides, lot in [*some_maps(seed, many, most), *some_loose(seed, many, most)]:
        for scale in ((1, 2), ONE, (7, 3), (4, 1)):
            left = tuple([name for at, name in enumerate(lot) if can_stand(chart, sides, lot[:at + 1], scale)])
            if can_stand(chart, sides, left, scale):
                yield chart, sides, left, drawn_standing(picked, chart, sides, left, scale), drawn_view(picked), scale


def frame(view, scale):
    """The window of a VIEW at a number."""
    p, q, wide, high = view
    return [scale * p - wide * HALF, scale * q - high * HALF, scale * p + wide * HALF, scale * q + high * HALF]


def edges(chart, name, place):
    """The box of a NAME, its PLACE two numbers."""
    x, y = place
    return [x, y, x + chart[name][0], y + chart[name][1]]


def meet(one, other):
    """Whether two boxes have an inner point in common."""
    return max(one[0], other[0]) < min(one[2], other[2]) and max(one[1], other[1]) < min(one[3], other[3])


def numbers(place):
    return [worth(own) for own in place]


class TestIsView(Calls):
    def test_things(self):
        yes = [WIDE, (0, 0, 1, 1), (-10 ** 400, 10 ** 400, 1, 10 ** 400), (0, 0, 20001, 20001)]
        no = [(0, 0, 0, 1), (0, 0, 1, 0), (0, 0, -1, 1), (0, 0, 1), (0, 0, 1, 1, 1), [0, 0, 1, 1], ((0, 0), 1, 1), (FLAT, FLAT, 1, 1), (0, 0, (1, 1), 1)]
        no += [put(WIDE, place, thing) for place in range(4) for thing in unlike(THINGS, []) if isinstance(thing, bool) or not isinstance(thing, int)]
        things = [thing for thing in THINGS if thing != (1,) * 4]
        self.judged(is_view, yes, no + things + [as_lists(WIDE), (WIDE,), nested(100, tuple)])


class TestWindow(Calls):
    def test_as_told(self):
        self.told(((-2, 1), (-1, 1), (6, 1), (1, 1)), window, WIDE, TWO_THIRDS)
        self.told(((-7, 6), (-1, 2), (23, 6), (1, 2)), window, LOW, TWO_THIRDS)
        self.told(((-1, 2), (-3, 2), (1, 2), (3, 2)), window, (0, 0, 1, 3), (7, 1))
        for view, scale in ((WIDE, (1, 7)), ((-5, 9, 3, 3), (22, 7)), ((10 ** 6, -10 ** 6, 10 ** 6, 1), (10 ** 12, 7))):
            self.told(tuple(map(pair, frame(view, worth(scale)))), window, view, scale)


class TestSeen(Calls):
    def test_as_told(self):
        self.told((0, 1), seen, ROW, ALL, STAND, WIDE, TWO_THIRDS)
        self.told(((5, 6), FLAT, FLAT, (1, 2)), cut_at, ROW, ALL, STAND, LOW, TWO_THIRDS, 0)
        self.told((FLAT,) * 3 + ((0, 1),), cut_at, ROW, ALL, STAND, WIDE, TWO_THIRDS, 1)
        # The window touches a box, at its edges and at a corner alone.
        self.told((1,), seen, ROW, ALL, STAND, (6, 0, 4, 2), TWO_THIRDS)
        self.told((), seen, ROW, ALL, STAND, (0, 3, 4, 2), TWO_THIRDS)
        self.told((0,), seen, ROW, ALL, STAND, (0, 3, 4, 3), TWO_THIRDS)
        self.told((), seen, ROW, (), (), WIDE, ONE)
        self.told((1, 2), seen, ROW, (1, 2), STAND[1:], (6, 0, 99, 1), ONE)

    def test_errors(self):
        for name in WRONG:
            self.refused(NoPlace, {"place": name}, cut_at, ROW, ALL, STAND, WIDE, TWO_THIRDS, name)
        # Not of the LOT; of it, but not seen; touched alone.
        self.refused(CanNot, {}, cut_at, ROW, (0, 2), STAND[::2], WIDE, TWO_THIRDS, 1)
        self.refused(CanNot, {}, cut_at, ROW, ALL, STAND, (3, 9, 8, 2), TWO_THIRDS, 1)
        self.refused(CanNot, {}, cut_at, ROW, ALL, STAND, WIDE, TWO_THIRDS, 2)

    def test_beside_plain_boxes(self):
        seens = []
        for chart, _, lot, standing, view, scale in some_standings(231, 40):
            own = frame(view, worth(scale))
            boxes = {name: edges(chart, name, numbers(place)) for name, place in zip(lot, standing)}
            told = tuple([name for name in lot if meet(boxes[name], own)])
            self.told(told, seen, chart, lot, standing, view, scale)
            for name in range(len(chart)):
                if name in told:
                    beyond = [own[0] - boxes[name][0], own[1] - boxes[name][1], boxes[name][2] - own[2], boxes[name][3] - own[3]]
                    self.told(tuple([pair(max(far, 0)) for far in beyond]), cut_at, chart, lot, standing, view, scale, name)
                else:
                    self.refused(CanNot, {}, cut_at, chart, lot, standing, view, scale, name)
            seens.append(len(lot) - len(told))
        self.assertGreater(len({*seens}), 3)


class TestPicture(Calls):
    def test_as_told(self):
        self.told(("........", "00001111"), picture, ROW, ALL, STAND, WIDE, TWO_THIRDS)
        self.told(("00011",), picture, ROW, ALL, STAND, LOW, TWO_THIRDS)
        self.told((".",), picture, ROW, (), (), (9, 9, 1, 1), ONE)
        # Boxes whose west and north edges, and whose east and south ones, lie on a cell's middle.
        one = ((2, 2, (0, 9, 9, 9), (0, 9, 9, 9)),)
        self.told(("....", ".00.", ".00.", "...."), picture, one, (0,), (((-1, 2), (-1, 2)),), (0, 0, 4, 4), ONE)
        self.told(("00..", "00..", "....", "...."), picture, one, (0,), (((-3, 2), (-3, 2)),), (0, 0, 4, 4), ONE)
        self.told(("00..", "00..", "....", "...."), picture, one, (0,), (((-2, 1), (-2, 1)),), (0, 0, 4, 4), ONE)
        self.told(("0...", "....", "....", "...."), picture, one, (0,), (((-5, 2), (-5, 2)),), (0, 0, 4, 4), ONE)
        self.told((".00", ".00", "..."), picture, one, (0,), (((-1, 2), (-3, 2)),), (0, 0, 3, 3), ONE)

    def test_signs(self):
        many = 40
        chart = tuple([(1, 1, (own, 0, own, 0), STILL) for own in range(many)])
        standing = tuple([((own, 1), FLAT) for own in range(many)])
        self.told((SIGNS + "++++..",), picture, chart, tuple(range(many)), standing, (21, 0, 42, 1), ONE)
        self.told(("z++",), picture, chart, (35, 36, 39), ((FLAT, FLAT), (ONE, FLAT), ((2, 1), FLAT)), (1, 0, 3, 1), (3, 2))
        self.told(("9a",), picture, chart, (9, 10), ((FLAT, FLAT), (ONE, FLAT)), (1, 0, 2, 1), ONE)

    def test_cells(self):
        self.assertEqual([len(row) for row in picture(ROW, ALL, STAND, (0, 0, 200, 100), ONE)], [200] * 100)
        self.assertEqual([len(row) for row in picture(ROW, ALL, STAND, (0, 0, 20000, 1), ONE)], [20000])
        self.assertEqual(len(picture(ROW, ALL, STAND, (0, 0, 1, 20000), ONE)), 20000)
        for wide, high in ((20001, 1), (1, 20001), (142, 141), (10 ** 6, 10 ** 6), (201, 100)):
            self.refused(TooMuch, {}, picture, ROW, ALL, STAND, (0, 0, wide, high), ONE)

    def test_cell_by_cell(self):
        signs = []
        for chart, _, lot, standing, view, scale in some_standings(232, 40):
            west, north, _, _ = frame(view, worth(scale))
            boxes = {name: edges(chart, name, numbers(place)) for name, place in zip(lot, standing)}
            rows = []
            for down, across in itertools.product(range(view[3]), range(view[2])):
                x, y = west + across + HALF, north + down + HALF
                there = [name for name, box in boxes.items() if box[0] <= x < box[2] and box[1] <= y < box[3]]
                # No cell is asked for by two.
                self.assertLessEqual(len(there), 1)
                rows.append(SIGNS[there[0]] if there else ".")
            text = "".join(rows)
            told = tuple([text[at:at + view[2]] for at in range(0, len(text), view[2])])
            self.told(told, picture, chart, lot, standing, view, scale)
            signs += list(text)
        self.assertGreater(len({*signs}), 4)


class TestLeastView(Calls):
    def test_as_told(self):
        self.told((3, 0, 16, 2), least_view, ROW, ALL, STAND, TWO_THIRDS, 3, 0)
        self.told((-7, 10 ** 6, 1, 1), least_view, ROW, (), (), ONE, -7, 10 ** 6)
        self.told((4, 0, 13, 2), least_view, ROW, (2,), STAND[2:], (7, 8), 4, 0)
        self.told((0, 1, 1, 1), least_view, ((1, 1, STILL, STILL),), (0,), (((-1, 2), (1, 2)),), ONE, 0, 1)
        # Half a number off.
        self.told((0, 0, 5, 3), least_view, ((4, 1, STILL, STILL),), (0,), (((-3, 2), (-3, 2)),), ONE, 0, 0)
        self.told((1, 0, 9, 3), least_view, ((4, 1, STILL, STILL),), (0,), (((1, 1), (1, 2)),), (1, 2), 1, 0)

    def test_the_least_one(self):
        for chart, _, lot, standing, (p, q, _, _), scale in some_standings(233, 40):
            own = least_view(chart, lot, standing, scale, p, q)
            self.told(own, least_view, chart, lot, standing, scale, p, q)
            self.judged(is_view, [own], ())
            self.assertEqual(own[:2], (p, q))
            holds = []
            for view in (own, (p, q, own[2] - 1, own[3]), (p, q, own[2], own[3] - 1)):
                there = frame(view, worth(scale))
                boxes = [edges(chart, name, numbers(place)) for name, place in zip(lot, standing)]
                holds.append(all([there[0] <= box[0] and there[1] <= box[1] and box[2] <= there[2] and box[3] <= there[3] for box in boxes]))
            self.assertEqual(holds, [True, False, False] if lot else [True] * 3)
            for name in lot:
                self.assertEqual(cut_at(chart, lot, standing, own, scale, name), (FLAT,) * 4)
            self.assertEqual(seen(chart, lot, standing, own, scale), lot)


class TestTiles(Calls):
    def test_as_told(self):
        self.told(((0, 0), (1, 0)), tiles_under, ROW, 1, STAND[1], 4)
        self.told([((-1, 0), (0,)), ((0, 0), (0, 1)), ((1, 0), (1, 2)), ((2, 0), (2,))], by_tiles, ROW, ALL, STAND, 4)
        self.told([], by_tiles, ROW, (), (), 4)
        # A box that lies on the edges of TILES; one a little off; a TILE greater than all.
        self.told(((1, 0),), tiles_under, ROW, 1, ((4, 1), FLAT), 4)
        self.told(((0, -1), (0, 0), (1, -1), (1, 0)), tiles_under, ROW, 1, ((7, 2), (-1, 2)), 4)
        self.told(((-1, -1),), tiles_under, ROW, 1, ((-4, 1), (-1, 1)), 10 ** 6)
        self.told(((-1, 0), (0, 0)), tiles_under, ROW, 1, ((-1, 10 ** 12), FLAT), 10 ** 6)
        # Far out, both ways.
        far = 10 ** 12
        self.told(tuple([(own, far) for own in range(-far, 4 - far)]), tiles_under, ROW, 1, ((-far, 1), (far, 1)), 1)
        self.told(tuple([(own, -far) for own in range(far, far + 4)]), tiles_under, ROW, 1, ((far, 1), (-far, 1)), 1)

    def test_errors(self):
        for name in WRONG:
            self.refused(NoPlace, {"place": name}, tiles_under, ROW, name, STAND[0], 4)
            self.refused(NoPlace, {"place": name}, tiles_under, ((10 ** 6, 10 ** 6, STILL, STILL),) * 3, name, STAND[0], 1)
        great = ((2000, 1, STILL, STILL), (2001, 1, STILL, STILL), (50, 40, STILL, STILL), (23, 87, STILL, STILL), (1, 2000, STILL, STILL))
        flat = (FLAT, FLAT)
        for name, many in ((0, 2000), (2, 2000), (4, 2000)):
            self.assertEqual(len(tiles_under(great, name, flat, 1)), many)
        for name in (1, 3):
            self.refused(TooMuch, {}, tiles_under, great, name, flat, 1)
        self.refused(TooMuch, {}, tiles_under, great, 0, ((1, 2), FLAT), 1)
        self.assertEqual(len(tiles_under(great, 1, flat, 2)), 1001)
        # Of all together there may be more, of none.
        rows = tuple([(2000, 1, STILL, (own, 0, own, 0)) for own in range(3)])
        places = tuple([(FLAT, (own, 1)) for own in range(3)])
        self.assertEqual(len(by_tiles(rows, ALL, places, 1)), 6000)
        self.refused(TooMuch, {}, by_tiles, rows[:2] + ((2001, 1, STILL, (2, 0, 2, 0)),), ALL, places, 1)
        self.refused(TooMuch, {}, by_tiles, great, (1,), (flat,), 1)

    def test_tile_by_tile(self):
        counts = []
        for chart, _, lot, standing, view, _ in some_standings(234, 40):
            size = view[2]
            boxes = {name: edges(chart, name, numbers(place)) for name, place in zip(lot, standing)}
            table = {}
            for name, box in boxes.items():
                first, top, stop, end = [int(edge // size) + far for edge, far in zip(box, (-1, -1, 2, 2))]
                for i, j in itertools.product(range(first, stop), range(top, end)):
                    if meet(box, [i * size, j * size, (i + 1) * size, (j + 1) * size]):
                        table.setdefault((i, j), []).append(name)
                self.told(tuple(sorted([tile for tile in table if name in table[tile]])), tiles_under, chart, name, standing[lot.index(name)], size)
            told = [(tile, tuple(table[tile])) for tile in sorted(table)]
            self.told(told, by_tiles, chart, lot, standing, size)
            counts.append(max([len(names) for _, names in told], default=0))
        self.assertGreater(max(counts), 1)

    def test_lists_are_new(self):
        one = by_tiles(ROW, ALL, STAND, 4)
        one.clear()
        self.assertEqual(len(by_tiles(ROW, ALL, STAND, 4)), 4)


class TestSeenSpans(Calls):
    def test_as_told(self):
        for name, told in ((0, [(TWO_THIRDS, (4, 3))]), (1, [(TWO_THIRDS, (2, 1))]), (2, [])):
            self.told(told, seen_spans, ROW, BOOK, WAY, NEAR, name)
        for name in WRONG:
            self.refused(NoPlace, {"place": name}, seen_spans, ROW, BOOK, WAY, NEAR, name)
        # The window goes away from a NAME that stands still, comes over one, and over one again.
        self.told([(TWO_THIRDS, (3, 2))], seen_spans, ROW, (FLAT,), ((TWO_THIRDS, (STAND[0],)), ((9, 1), (STAND[0],))), (2, 0, 2, 2), 0)
        self.told([((5, 3), (11, 3))], seen_spans, ROW, BOOK, ((TWO_THIRDS, STAND), ((9, 1), STAND)), (3, 0, 2, 2), 2)
        self.told([], seen_spans, ROW, BOOK, ((TWO_THIRDS, STAND), (ONE, STAND)), (0, 3, 99, 1), 1)

    def test_who_comes_on_the_way(self):
        # NAME 1 comes at 2/3, inside of this GLIDE; ahead of it nothing is told of it.
        book, way = BOOK, (((1, 3), STAND[:2]), *WAY)
        self.judged(is_glide, [way], (), ROW, BESIDE, book)
        self.told([(TWO_THIRDS, (2, 1))], seen_spans, ROW, book, way, NEAR, 1)
        self.told([((1, 3), (4, 3))], seen_spans, ROW, book, way, NEAR, 0)
        self.told([], seen_spans, ROW, (FLAT, None, FLAT), tuple([(scale, own[::2] if len(own) > 2 else own) for scale, own in way]), NEAR, 1)
        self.told([], seen_spans, ROW, book, way[:2], NEAR, 1)

    def test_pairs_that_meet(self):
        # It goes to and fro: at 2 it only touches the window, at 3 it is well within.
        one = ((4, 1, (0, 9, 9, 9), (0, 9, 0, 9)),)
        away, near = ((FLAT, (1, 1)),), ((FLAT, FLAT),)
        way = ((ONE, near), ((2, 1), away), ((3, 1), near), ((4, 1), near), ((5, 1), away), ((6, 1), away), ((7, 1), near))
        self.told([(ONE, (2, 1)), ((2, 1), (5, 1)), ((6, 1), (7, 1))], seen_spans, one, (FLAT,), way, (0, 0, 8, 2), 0)
        self.told([(ONE, (7, 1))], seen_spans, one, (FLAT,), way, (0, 0, 8, 3), 0)
        # A window that only touches all along, and one at a corner at one SCALE alone.
        self.told([], seen_spans, one, (FLAT,), ((ONE, away), ((9, 1), away)), (0, 0, 8, 2), 0)
        self.told([], seen_spans, one, (FLAT,), ((ONE, (((3, 1), FLAT),)), ((2, 1), (((3, 1), FLAT),)), ((3, 1), (((3, 1), FLAT),))), (0, 0, 6, 2), 0)

    def test_scale_by_scale(self):
        picked = random.Random(235)
        found = []
        for chart, sides, book, way in some_glides(235, 60):
            view = drawn_view(picked)
            for name in range(len(chart)):
                spans = seen_spans(chart, book, way, view, name)
                self.told(spans, seen_spans, chart, book, way, view, name)
                self.assertEqual(spans, sorted(spans, key=lambda span: worth(span[0])))
                first, last = worth(way[0][0]), worth(way[-1][0])
                ends = sorted({first, last, *[worth(own) for span in spans for own in span], *[worth(own) for own, _ in way]})
                for low, high in zip(ends, ends[1:]):
                    inside = any([worth(start) <= low and high <= worth(stop) for start, stop in spans])
                    for scale in (low + (high - low) / 10 ** 9, (low + high) / 2, high - (high - low) / 10 ** 9):
                        places = plain_at(book, way, scale)
                        self.assertIs(name in places and meet(edges(chart, name, places[name]), frame(view, scale)), inside)
                for at in ends:
                    places = plain_at(book, way, at)
                    there = name in places and meet(edges(chart, name, places[name]), frame(view, at))
                    # Where two pairs meet it is not seen; within one it is.
                    if any([worth(start) < at < worth(stop) for start, stop in spans]):
                        self.assertTrue(there)
                    elif first < at < last and there:
                        self.assertTrue(name in shown(book, pair(at)) and worth(book[name]) == at)
                self.assertTrue(all([worth(start) < worth(stop) for start, stop in spans]))
                found.append(len(spans))
                # Between two SCALES of the GLIDE next to one another: one range or none.
                for one, other in zip(way, way[1:]):
                    parts = [span for span in spans if worth(span[0]) < worth(other[0]) and worth(span[1]) > worth(one[0])]
                    self.assertLessEqual(len(parts), 1)
        self.assertEqual({*found} | {0, 1, 2}, {*found})

    def test_what_is_returned_is_passed_in_again(self):
        chart = sized(spread(ROW, 10 ** 6), 10 ** 12)
        book = (FLAT, pair(worth(TWO_THIRDS) * 10 ** 6), FLAT)
        way = glide(chart, BESIDE, book, book[1], (10 ** 7, 1))
        view = least_view(chart, ALL, way[0][1], way[0][0], 3, 0)
        self.assertEqual(seen(chart, ALL, way[0][1], view, way[0][0]), ALL)
        for name in ALL:
            for start, stop in seen_spans(chart, book, way, view, name):
                there = pair((worth(start) + worth(stop)) / 2)
                self.assertIn(name, seen(chart, ALL, standing_at(book, way, there), view, there))
        box = box_at(chart, 1, way[0][1][1])
        self.assertEqual(window(view, way[0][0])[3], box[3])
