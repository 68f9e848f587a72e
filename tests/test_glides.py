"""Glides [15]: what is one, what it tells between its pairs, and its slide, beside plain standings and straight ways."""

import fractions
import random

from glidenames.books import arrivals, book_of, keeps, shown
from glidenames.errors import CanNot, NoPlace, Unfit
from glidenames.glides import (
    events, fall_of, glide, is_glide, place_at, slide_of, slidest, standing_at, stopped, straightened,
)
from glidenames.maps import sized, spread
from glidenames.sides import all_beside, by_rule
from glidenames.stands import greatest_standing, least_standing
from tests import reckoned
from tests.drawn import STILL, drawn_map, drawn_row, drawn_sides
from tests.kit import THINGS, Calls, as_lists, mixed, nested, put, unlike
from tests.reckoned import pair, worth
from tests.test_books import by_name, drawn_book, some_ranked

ROW, LEFTS = tuple([(4, 1, (own, 2, own, 2), STILL) for own in (0, 3, 6)]), ((), (0,), (0, 0))
BOOK, FULL = ((0, 1), (2, 3), (0, 1)), (1, 1)
FLAT = (0, 1)
FIRST = ((1, 3), (((-2, 1), FLAT), ((2, 1), FLAT)))
STAND = (((-2, 1), FLAT), ((2, 1), FLAT), ((6, 1), FLAT))
WAY = (FIRST, ((2, 3), STAND), (FULL, STAND))
WRONG = (-1, -3, 3, 10 ** 6, -10 ** 6)
HALF = fractions.Fraction(1, 2)


def drawn_standing(picked, chart, sides, lot, scale):
    """A STANDING of a LOT that can stand: one between the least and the greatest one."""
    part = picked.choice((0, 1, HALF, fractions.Fraction(1, 3), fractions.Fraction(5, 7)))
    ends = (least_standing(chart, sides, lot, scale), greatest_standing(chart, sides, lot, scale))
    return tuple([tuple([pair(worth(x) + part * (worth(y) - worth(x))) for x, y in zip(*two)]) for two in zip(*ends)])


def drawn_glide(picked, chart, sides, book, more=2):
    """A GLIDE of a BOOK that keeps, with pairs at all ARRIVALS and some more."""
    stops = [worth(own) for own in arrivals(book)]
    scales = {fractions.Fraction(1, 4), *stops[:picked.randrange(len(stops) + 1)]}
    scales.add(max(scales) + picked.choice((HALF, 2, 9)))
    while len(scales) < 2 + more:
        scales.add(fractions.Fraction(picked.randrange(1, 40), picked.randrange(4, 12)))
    scales.update([own for own in stops if min(scales) < own < max(scales)])
    return tuple([(pair(own), drawn_standing(picked, chart, sides, shown(book, pair(own)), pair(own))) for own in sorted(scales)])


def some_glides(seed, many, most=4):
    """Quadruples of a MAP, SIDES, a BOOK that keeps, and a GLIDE of it."""
    picked = random.Random(seed)
    for chart, sides, ranking, comings in some_ranked(seed, many, most):
        book = book_of(chart, sides, ranking)
        other = drawn_book(picked, book, comings)
        book = other if keeps(chart, sides, other) else book
        yield chart, sides, book, drawn_glide(picked, chart, sides, book, picked.randrange(3))


def plain_fall(chart, sides, book, pairs):
    """The number of the first pair with which they are no GLIDE."""
    stops = [worth(own) for own in arrivals(book)]
    for number, (scale, standing) in enumerate(pairs):
        own, lot = worth(scale), reckoned.shown(by_name(book), worth(scale))
        if number > 0:
            ahead = worth(pairs[number - 1][0])
            if own <= ahead or any([ahead < stop < own for stop in stops]):
                return number
        if len(standing) != len(lot) or not reckoned.is_standing(chart, sides, lot, own, standing):
            return number
    return None


def plain_at(book, way, scale):
    """The PLACES, by NAME, that a GLIDE tells at a number."""
    for one, other in zip(way, way[1:]):
        low, high = worth(one[0]), worth(other[0])
        if low <= scale <= high:
            own = one if scale < high else other
            there = dict(zip(shown(book, other[0]), other[1]))
            places = {}
            for name, place in zip(shown(book, own[0]), own[1]):
                goal = there[name]
                places[name] = tuple([worth(x) + (worth(y) - worth(x)) * (scale - worth(own[0])) / (high - low) for x, y in zip(place, goal)])
            return places
    return None


def plain_slides(chart, book, way):
    """Pairs of each slide and where it is, ascending by where."""
    told = []
    for number, (one, other) in enumerate(zip(way, way[1:])):
        low, high = worth(one[0]), worth(other[0])
        there = dict(zip(shown(book, other[0]), other[1]))
        for name, place in zip(shown(book, one[0]), one[1]):
            for axis in (0, 1):
                start = chart[name][2 + axis][0]
                offsets = [worth(place[axis]) - low * start, worth(there[name][axis]) - high * start]
                told.append((abs(offsets[1] - offsets[0]) / (high - low), (number, name, axis)))
    return told


class TestEvents(Calls):
    def test_as_told(self):
        self.told(((1, 3), (2, 3), (1, 1)), events, BOOK, (1, 3), FULL)
        book = ((0, 1), (1, 2), (10, 3), (2, 9), None, (1, 2), (3, 1))
        self.told(((1, 9), (2, 9), (1, 2), (3, 1), (10, 3), (4, 1)), events, book, (1, 9), (4, 1))
        # ARRIVALS that are the first, the last SCALE, or outside of both.
        self.told(((2, 9), (1, 2), (3, 1)), events, book, (2, 9), (3, 1))
        self.told(((10, 3), (4, 1)), events, book, (10, 3), (4, 1))
        self.told(((5, 1), (10 ** 12, 1)), events, book, (5, 1), (10 ** 12, 1))
        self.told(((1, 2), (5, 9)), events, (None,), (1, 2), (5, 9))
        for first, last in ((FULL, FULL), (FULL, (1, 3)), ((10, 3), (3, 1))):
            self.refused(Unfit, {}, events, BOOK, first, last)


class TestIsGlide(Calls):
    def test_glides(self):
        later = (((5, 6), STAND), ((7, 6), STAND))
        self.judged(is_glide, [WAY, WAY[:2], WAY[1:], later], [WAY[::2], WAY[::-1], WAY[:1], (), WAY[1:2], (WAY,)], ROW, LEFTS, BOOK)
        # Of another BOOK the same pairs are none, or are all there has to be.
        self.judged(is_glide, (), [WAY, WAY[:2]], ROW, LEFTS, ((0, 1), None, (0, 1)))
        two = (FIRST, ((2, 3), STAND[::2]))
        self.judged(is_glide, [two], [WAY], ROW, LEFTS, ((0, 1), None, (0, 1)))
        self.judged(is_glide, [(((1, 3), ()), ((2, 3), ()))], [(((1, 3), ()), ((2, 6), ()))], ROW, LEFTS, (None,) * 3)

    def test_things(self):
        no = [as_lists(WAY), list(WAY), mixed(WAY), WAY + WAY[2:], (WAY[0], WAY[0], *WAY[1:]), WAY + (None,), (WAY, WAY)]
        for place, (scale, standing) in enumerate(WAY):
            for new in ((scale,), (scale, standing, 0), [scale, standing], (standing, scale), scale, standing, None, (scale, None)):
                no.append(put(WAY, place, new))
            for new in ((scale[0] * 2, scale[1] * 2), list(scale), (0, 1), (-1, 3), (True, 1), (1, True), scale[0], 1, None, (0, 0), scale + (1,)):
                no.append(put(WAY, place, (new, standing)))
            for new in (as_lists(standing), list(standing), standing[:-1], standing + standing[:1], standing[::-1], (), ((FLAT, FLAT),) * 3):
                no.append(put(WAY, place, (scale, new)))
            no += [put(WAY, place, (scale, thing)) for thing in unlike(THINGS, [])] + [put(WAY, place, thing) for thing in THINGS]
            no += [put(WAY, place, (thing, standing)) for thing in unlike(THINGS, []) if thing != (1, 1) or place < 2]
        self.judged(is_glide, [WAY], [thing for thing in no if repr(thing) != repr(WAY)] + list(THINGS), ROW, LEFTS, BOOK)
        self.judged(is_glide, (), [nested(100, tuple), (nested(99, tuple),) * 2, ((FULL, nested(98, tuple)),) * 2], ROW, LEFTS, BOOK)

    def test_many_pairs(self):
        way = tuple([(pair(fractions.Fraction(60 + own, 90)), STAND) for own in range(40)])
        self.judged(is_glide, [way, way[::3]], [way[:20] + way[20:][::-1], way[:9] + way[8:]], ROW, LEFTS, BOOK)

    def test_drawn_ones(self):
        picked = random.Random(161)
        told = []
        for chart, sides, book, way in some_glides(161, 50):
            self.judged(is_glide, [way], [as_lists(way)], chart, sides, book)
            for _ in range(4):
                pairs = list(way)
                at = picked.randrange(len(pairs))
                if picked.randrange(2):
                    pairs.pop(at)
                else:
                    scale, standing = pairs[at]
                    more = pair(worth(scale) + picked.choice((-1, 0, 1)) * fractions.Fraction(1, 8))
                    pairs[at] = (more if more[0] > 0 else scale, standing[:picked.choice((-1, None))])
                fall = plain_fall(chart, sides, book, pairs)
                self.told(fall, fall_of, chart, sides, book, tuple(pairs))
                told.append((fall is None) and len(pairs) > 1)
                self.assertIs(is_glide(chart, sides, book, tuple(pairs)), told[-1])
        self.assertGreater(min(told.count(True), told.count(False)), 50)


class TestFallOf(Calls):
    def test_as_told(self):
        for pairs, number in ((WAY, None), (WAY[::2], 1), (WAY[::-1], 1), (WAY[:1], None), ((), None), (WAY[2:] + WAY[:1], 1)):
            self.told(number, fall_of, ROW, LEFTS, BOOK, pairs)
        # No STANDING: too short, too long, off a TETHER, covered; the same SCALE twice.
        for new in (STAND[:2], STAND + STAND[:1], put(STAND, 0, ((-21, 10), FLAT)), put(STAND, 2, ((59, 10), FLAT)), (), ((FLAT, FLAT),) * 3):
            self.told(1, fall_of, ROW, LEFTS, BOOK, put(WAY, 1, ((2, 3), new)))
            self.told(0, fall_of, ROW, LEFTS, BOOK, (((2, 3), new),))
        self.told(3, fall_of, ROW, LEFTS, BOOK, WAY + WAY[2:])
        self.told(2, fall_of, ROW, LEFTS, BOOK, (WAY[1], WAY[2], WAY[1]))
        # An ARRIVAL at one of both SCALES is not between them.
        self.told(None, fall_of, ROW, LEFTS, BOOK, WAY[1:])
        self.told(1, fall_of, ROW, LEFTS, BOOK, (FIRST, ((667, 1000), STAND)))


class TestGlide(Calls):
    def test_as_told(self):
        self.told(WAY, glide, ROW, LEFTS, BOOK, (1, 3), FULL)
        self.told((WAY[1], ((5, 6), least_standing(ROW, LEFTS, (0, 1, 2), (5, 6)))), glide, ROW, LEFTS, BOOK, (2, 3), (5, 6))
        self.told((((1, 3), ()), (FULL, ())), glide, ROW, LEFTS, (None,) * 3, (1, 3), FULL)
        # First of all the SCALES; then whether all can stand at the EVENTS.
        never = ((0, 1),) * 3
        for book in (BOOK, never):
            for first, last in ((FULL, FULL), (FULL, (1, 3))):
                self.refused(Unfit, {}, glide, ROW, LEFTS, book, first, last)
        self.refused(Unfit, {}, glide, ROW, LEFTS, never, (1, 3), FULL)
        self.refused(Unfit, {}, glide, ROW, LEFTS, ((0, 1), (1, 2), (0, 1)), (1, 3), FULL)
        self.refused(Unfit, {}, glide, ROW, ((), (2,), (0, 0)), BOOK, (1, 3), FULL)
        # Only the EVENTS count: at these SCALES the LOTS of this one can stand.
        self.assertEqual(len(glide(ROW, LEFTS, never, (2, 3), FULL)), 2)
        self.assertEqual(len(glide(ROW, LEFTS, ((0, 1), (1, 2), (0, 1)), (1, 3), (2, 5))), 2)

    def test_beside_plain_ones(self):
        picked = random.Random(162)
        for chart, sides, book, way in some_glides(162, 40):
            first, last = way[0][0], way[-1][0]
            own = glide(chart, sides, book, first, last)
            self.told(own, glide, chart, sides, book, first, last)
            self.judged(is_glide, [own], (), chart, sides, book)
            self.assertEqual(tuple([scale for scale, _ in own]), events(book, first, last))
            for scale, standing in own:
                self.same(standing, reckoned.least_places(chart, sides, shown(book, scale), worth(scale)))
            # Whatever STANDINGS are told at the EVENTS make a GLIDE.
            drawn = tuple([(scale, drawn_standing(picked, chart, sides, shown(book, scale), scale)) for scale, _ in own])
            self.assertIs(is_glide(chart, sides, book, drawn), True)

    def test_sixteen_names(self):
        picked = random.Random(163)
        for _ in range(3):
            chart = sized(drawn_map(picked, 16), 10 ** 3)
            for sides in (by_rule(chart), all_beside(chart), drawn_sides(picked, 16)):
                book = book_of(chart, sides, drawn_row(picked, 16))
                own = glide(chart, sides, book, (1, 10 ** 6), (10 ** 6, 1))
                self.assertIs(is_glide(chart, sides, book, own), True)
                for one, other in zip(own, own[1:]):
                    scale = pair((worth(one[0]) + worth(other[0])) / 2)
                    lot = shown(book, scale)
                    self.assertTrue(reckoned.is_standing(chart, sides, lot, worth(scale), standing_at(book, own, scale)))


class TestPlaces(Calls):
    def test_as_told(self):
        self.told(((3, 1), FLAT), place_at, BOOK, WAY, 2, (5, 12))
        self.told((((-2, 1), FLAT), ((4, 1), FLAT)), standing_at, BOOK, WAY, (1, 2))
        self.told(STAND, standing_at, BOOK, WAY, (5, 6))
        for scale, standing in WAY:
            self.told(standing, standing_at, BOOK, WAY, scale)
        self.told(STAND[1], place_at, BOOK, WAY, 1, (2, 3))

    def test_errors(self):
        for name in WRONG:
            # The NAME first, then the SCALE.
            for scale in ((1, 2), (1, 4), (9, 1)):
                self.refused(NoPlace, {"place": name}, place_at, BOOK, WAY, name, scale)
        for scale in ((1, 4), (333333, 10 ** 6), (1000001, 10 ** 6), (9, 1)):
            self.refused(CanNot, {}, standing_at, BOOK, WAY, scale)
            self.refused(CanNot, {}, stopped, BOOK, WAY, scale)
            for name in (0, 1):
                self.refused(CanNot, {}, place_at, BOOK, WAY, name, scale)
        for scale in ((1, 3), (1, 2), (666666, 10 ** 6)):
            self.refused(CanNot, {}, place_at, BOOK, WAY, 1, pair(worth(scale)))
        self.refused(CanNot, {}, place_at, (None, None), (((1, 3), ()), (FULL, ())), 1, (1, 2))
        self.told((), standing_at, (None, None), (((1, 3), ()), (FULL, ())), (1, 2))

    def test_beside_straight_ways(self):
        picked = random.Random(164)
        for chart, sides, book, way in some_glides(164, 50):
            scales = [worth(scale) for scale, _ in way]
            for one, other in zip(scales, scales[1:]):
                for scale in (one, other, (one + other) / 2, one + (other - one) / picked.randrange(3, 99)):
                    places = plain_at(book, way, scale)
                    own = standing_at(book, way, pair(scale))
                    self.same(own, tuple([tuple(map(pair, places[name])) for name in sorted(places)]))
                    self.assertTrue(reckoned.is_standing(chart, sides, reckoned.shown(by_name(book), scale), scale, own))
                    for name in range(len(chart)):
                        if name in places:
                            self.same(place_at(book, way, name, pair(scale)), own[sorted(places).index(name)])
                        else:
                            self.refused(CanNot, {}, place_at, book, way, name, pair(scale))
            self.told(own, standing_at, book, way, pair(scale))
            for name, place in zip(sorted(places), own):
                self.told(place, place_at, book, way, name, pair(scale))


class TestSlides(Calls):
    def test_as_told(self):
        self.told((6, 1), slide_of, ROW, BOOK, WAY)
        self.told((0, 2, 0), slidest, ROW, BOOK, WAY)
        # Who comes counts from there on alone; a NAME that goes with its place does not slide.
        self.told((6, 1), slide_of, ROW, BOOK, WAY[1:])
        calm = tuple([((own, 1), tuple([((own * chart[2][0], 1), FLAT) for chart in ROW])) for own in (2, 3, 9)])
        self.told((0, 1), slide_of, ROW, BOOK, calm)
        self.refused(CanNot, {}, slidest, ROW, BOOK, calm)
        empty = (((1, 3), ()), (FULL, ()))
        self.told((0, 1), slide_of, ROW, (None,) * 3, empty)
        self.refused(CanNot, {}, slidest, ROW, (None,) * 3, empty)
        # Down, of a NAME of two that slide alike; and backwards.
        free = ((1, 1, (0, 9, 9, 9), (0, 9, 9, 9)),) * 2
        way = (((1, 1), ((FLAT, (4, 1)), (FLAT, (9, 1)))), ((3, 1), ((FLAT, (1, 1)), (FLAT, (12, 1)))), ((4, 1), ((FLAT, FLAT), ((1, 1), (12, 1)))))
        book = ((0, 1), (0, 1))
        self.told((3, 2), slide_of, free, book, way)
        self.told((0, 0, 1), slidest, free, book, way)
        self.told((0, 0, 1), slidest, free, book, way[1:])
        self.told((1, 1), slide_of, free, book, way[1:])

    def test_beside_plain_ones(self):
        zeros = 0
        for chart, sides, book, way in some_glides(165, 60):
            every = plain_slides(chart, book, way)
            most = max([0] + [own for own, _ in every])
            self.told(pair(most), slide_of, chart, book, way)
            if most:
                self.told(min([spot for own, spot in every if own == most]), slidest, chart, book, way)
            else:
                zeros += 1
                self.refused(CanNot, {}, slidest, chart, book, way)
        self.assertTrue(0 < zeros < 60)


class TestStops(Calls):
    def test_as_told(self):
        more = (FIRST, ((1, 2), (((-2, 1), FLAT), ((4, 1), FLAT))), *WAY[1:])
        self.told(more, stopped, BOOK, WAY, (1, 2))
        self.judged(is_glide, [more], (), ROW, LEFTS, BOOK)
        self.told(WAY, straightened, BOOK, more)
        self.told(WAY, straightened, BOOK, WAY)
        self.told(WAY[1:], straightened, BOOK, WAY[1:])
        for scale, _ in WAY:
            self.told(WAY, stopped, BOOK, WAY, scale)
        # First and last stay though they are no ARRIVALS; one ARRIVAL among many others does, too.
        late = (((5, 6), STAND), ((1, 1), STAND), ((7, 6), STAND))
        self.told((late[0], late[2]), straightened, BOOK, late)
        self.told((FIRST, *WAY[1:2], late[2]), straightened, BOOK, (*WAY[:2], *late))

    def test_what_stays_as_it_was(self):
        picked = random.Random(166)
        for chart, sides, book, way in some_glides(166, 50):
            low, high = picked.choice(list(zip(way, way[1:])))
            scale = pair(worth(low[0]) + (worth(high[0]) - worth(low[0])) * picked.choice((HALF, fractions.Fraction(2, 9))))
            more = stopped(book, way, scale)
            self.told(more, stopped, book, way, scale)
            self.assertEqual(len(more), len(way) + 1)
            self.assertIs(is_glide(chart, sides, book, more), True)
            self.assertEqual([own for own in more if own[0] != scale], list(way))
            self.assertEqual(slide_of(chart, book, more), slide_of(chart, book, way))
            less = straightened(book, way)
            self.told(less, straightened, book, way)
            self.judged(is_glide, [less], [], chart, sides, book)
            self.assertEqual(tuple([own for own, _ in less]), events(book, way[0][0], way[-1][0]))
            self.assertTrue(all([own in way for own in less]))
            self.assertLessEqual(worth(slide_of(chart, book, less)), worth(slide_of(chart, book, way)))
            self.assertEqual(standing_at(book, more, scale), standing_at(book, way, scale))

    def test_what_is_returned_is_passed_in_again(self):
        chart = sized(spread(ROW, 10 ** 6), 10 ** 12)
        book = book_of(chart, LEFTS, (0, 2, 1))
        first, last = (book[1][0], book[1][1] * 3), pair(worth(book[1]) * fractions.Fraction(10 ** 12 + 1, 10 ** 12))
        way = glide(chart, LEFTS, book, pair(fractions.Fraction(*first)), last)
        for _ in range(6):
            way = stopped(book, way, pair((worth(way[0][0]) + worth(way[1][0])) / 2))
        self.judged(is_glide, [way], [as_lists(way)], chart, LEFTS, book)
        slides = {spot: own for own, spot in plain_slides(chart, book, way)}
        self.assertEqual(slides[slidest(chart, book, way)], worth(slide_of(chart, book, way)))
