"""The least slide [16]: beside all rings there are of small maps, and with both papers of greater ones."""

import fractions
import itertools
import random

from glidenames.books import arrivals, book_of, keeps, shown
from glidenames.errors import CanNot, Unfit
from glidenames.glides import events, glide, is_glide, slide_of, stopped
from glidenames.maps import sized, spread
from glidenames.sides import all_beside, by_rule
from glidenames.slides import (
    can_slide, glide_within, is_ring, least_slide, ratio_of, ring, ring_above, slowest,
)
from tests.drawn import STILL, drawn_loose, drawn_map, drawn_row, drawn_sides
from tests.kit import THINGS, Calls, as_lists, mixed, nested, put, unlike
from tests.reckoned import before, by_axes, pair, worth
from tests.test_books import drawn_book, some_ranked
from tests.test_glides import drawn_glide

THREE = tuple([(4, 1, (own, far, own, far), STILL) for own, far in ((0, 0), (2, 2), (4, 0))])
LEFTS, BOOK, ONE, TWO = ((), (0,), (0, 0)), ((0, 1), (1, 1), (2, 1)), (1, 1), (2, 1)
ROUND = (0, (None, (0, 0), (1, 0), (1, 1), (2, 1)))
AT_ONCE = ((0, 1),) * 3


def asked(chart, axis, scales, one, other):
    """The pair of what a RING asks from spot to spot, and of its run."""
    if one is None:
        return (-chart[other[0]][2 + axis][1], 0)
    low, _, high, behind = chart[one[0]][2 + axis]
    if other is None:
        return (-behind - scales[one[1]] * (high - low), 0)
    if one[1] != other[1]:
        return (0, abs(scales[one[1]] - scales[other[1]]))
    return (chart[one[0]][axis] - scales[one[1]] * (chart[other[0]][2 + axis][0] - low), 0)


def ratio(chart, scales, own):
    """The RATIO of a RING, None without a step."""
    axis, spots = own
    told = [asked(chart, axis, scales, *two) for two in zip(spots, spots[1:] + spots[:1])]
    runs = sum([run for _, run in told])
    return sum([ask for ask, _ in told]) / fractions.Fraction(runs) if runs else None


def all_spots(book, scales):
    return [None] + [(name, at) for at, scale in enumerate(scales) for name in shown(book, pair(scale))]


def may_go(chart, sides, axis, one, other):
    """Whether a RING may go from one spot to another one."""
    if one is None or other is None:
        return one != other
    if one[0] == other[0]:
        return abs(one[1] - other[1]) == 1
    return one[1] == other[1] and before(chart, sides, axis, one[0], other[0])


def all_rings(chart, sides, book, scales, longest=7):
    """All RINGS of at most so many spots, each as often as it has a spot to begin with."""
    spots, rings = all_spots(book, scales), []
    for axis in (0, 1):
        onward = {one: [other for other in spots if may_go(chart, sides, axis, one, other)] for one in spots}
        rows = [(spot,) for spot in spots]
        while rows:
            rings += [(axis, row) for row in rows if len(row) > 1 and row[0] in onward[row[-1]]]
            rows = [row + (other,) for row in rows if len(row) < longest for other in onward[row[-1]] if other not in row]
    return rings


def offsets(chart, book, way):
    """The offsets of a GLIDE by number of a pair, NAME and axis."""
    told = {}
    for number, (scale, standing) in enumerate(way):
        for name, place in zip(shown(book, scale), standing):
            for axis in (0, 1):
                told[number, name, axis] = worth(place[axis]) - worth(scale) * chart[name][2 + axis][0]
    return told


def plain_offsets(chart, sides, book, scales, slide):
    """The least offsets with a slide, pushed on till nothing moves; None if some leave a TETHER."""
    told = {}
    for axis in (0, 1):
        spots = all_spots(book, scales)[1:]
        own = {spot: fractions.Fraction(-chart[spot[0]][2 + axis][1]) for spot in spots}
        moved = True
        while moved:
            moved = False
            for one, other in itertools.permutations(spots, 2):
                if may_go(chart, sides, axis, one, other):
                    ask, run = asked(chart, axis, scales, one, other)
                    if own[one] + ask - slide * run > own[other]:
                        own[other], moved = own[one] + ask - slide * run, True
            if any([own[spot] + asked(chart, axis, scales, spot, None)[0] > 0 for spot in spots]):
                return None
        told.update({(at, name, axis): own[name, at] for name, at in spots})
    return told


def some_zooms(seed, many, most=3, ends=2):
    """Quintuples of a MAP, SIDES, a BOOK that keeps, and two SCALES with so many ARRIVALS at most between."""
    picked = random.Random(seed)
    for chart, sides, ranking, comings in some_ranked(seed, many, most):
        book = book_of(chart, sides, ranking)
        other = drawn_book(picked, book, comings)
        book = other if picked.randrange(2) and keeps(chart, sides, other) else book
        stops = [worth(own) for own in arrivals(book)][:ends]
        first = min([fractions.Fraction(1, 3), *stops]) if picked.randrange(2) else max([fractions.Fraction(1, 2), *stops[:1]])
        last = max([first, *stops]) + picked.choice((fractions.Fraction(1, 7), 1, 4))
        yield chart, sides, book, pair(first), pair(last)


def slides_about(own):
    """Slides at, just below and above a number, and 0."""
    near = fractions.Fraction(1, 10 ** 9)
    return [slide for slide in (fractions.Fraction(0), own - near, own, own + near, own * 2 + 1) if slide >= 0]


class TestLeastSlide(Calls):
    def test_as_told(self):
        for first, last, slide in ((ONE, TWO, (2, 1)), ((1, 2), ONE, (0, 1)), (TWO, (3, 1), (0, 1)), ((1, 2), (3, 1), (2, 1))):
            self.told(slide, least_slide, THREE, LEFTS, BOOK, first, last)
        for slide, told in (((2, 1), True), ((3, 2), False), ((1999, 1000), False), ((2001, 1000), True), ((0, 1), False)):
            self.told(told, can_slide, THREE, LEFTS, BOOK, ONE, TWO, slide)
        self.told((0, 1), least_slide, THREE, LEFTS, (None,) * 3, ONE, TWO)
        self.told((((1, 1), ()), ((2, 1), ())), slowest, THREE, LEFTS, (None,) * 3, ONE, TWO)
        self.told((0, 1), least_slide, THREE[:1], ((),), ((3, 2),), ONE, TWO)
        self.told((((1, 1), ()), ((3, 2), (((0, 1), (0, 1)),)), ((2, 1), (((0, 1), (0, 1)),))), slowest, THREE[:1], ((),), ((3, 2),), ONE, TWO)

    def test_beside_all_rings(self):
        picked = random.Random(171)
        above, lengths = 0, []
        for chart, sides, book, first, last in some_zooms(171, 110):
            call = (chart, sides, book, first, last)
            scales = [worth(own) for own in events(book, first, last)]
            rings = all_rings(chart, sides, book, scales)
            ratios = {own: ratio(chart, scales, own) for own in rings}
            own = worth(least_slide(*call))
            # All RINGS of up to seven spots; whichever has the LEAST SLIDE may be a longer one.
            most = max([0] + [told for told in ratios.values() if told is not None])
            self.assertGreaterEqual(own, most)
            if own == 0:
                self.refused(CanNot, {}, ring, *call)
            else:
                above += 1
                paper = ring(*call)
                self.told(paper, ring, *call)
                self.judged(is_ring, [paper], [as_lists(paper)], *call)
                self.assertEqual(ratio(chart, scales, paper), own)
                lengths.append(len(paper[1]))
                self.assertTrue(own == most or lengths[-1] > 7)
            self.told(pair(own), least_slide, *call)
            for paper in picked.sample(rings, min(len(rings), 40)):
                self.assertIs(is_ring(*call, paper), True)
                if ratios[paper] is None:
                    self.assertLessEqual(sum([asked(chart, paper[0], scales, *two)[0] for two in zip(paper[1], paper[1][1:] + paper[1][:1])]), 0)
                    self.refused(CanNot, {}, ratio_of, chart, book, first, last, paper)
                else:
                    self.same(ratio_of(chart, book, first, last, paper), pair(ratios[paper]))
                    self.assertTrue(ratios[paper] <= 0 or None in paper[1])
        self.assertGreater(above, 15)
        self.assertGreater(max(lengths), 4)

    def test_either_a_glide_or_a_ring(self):
        for chart, sides, book, first, last in some_zooms(172, 40):
            call = (chart, sides, book, first, last)
            scales = [worth(own) for own in events(book, first, last)]
            for slide in slides_about(worth(least_slide(*call))):
                told = plain_offsets(chart, sides, book, scales, slide)
                with_slide = (*call, pair(slide))
                self.assertIs(can_slide(*with_slide), told is not None)
                if told is None:
                    self.refused(CanNot, {}, glide_within, *with_slide)
                    paper = ring_above(*with_slide)
                    self.assertIs(is_ring(*call, paper), True)
                    self.assertGreater(ratio(chart, scales, paper), slide)
                else:
                    self.assertRaises(CanNot, ring_above, *with_slide)
                    way = glide_within(*with_slide)
                    self.assertIs(is_glide(chart, sides, book, way), True)
                    self.assertEqual([worth(scale) for scale, _ in way], scales)
                    self.assertLessEqual(worth(slide_of(chart, book, way)), slide)
                    self.assertEqual(offsets(chart, book, way), told)
            self.told(way, glide_within, *with_slide)
            self.told(True, can_slide, *with_slide)
            self.refused(CanNot, {}, ring_above, *with_slide)
            if least_slide(*call) != (0, 1):
                self.told(ring_above(*call, (0, 1)), ring_above, *call, (0, 1))
                self.told(False, can_slide, *call, (0, 1))

    def test_no_glide_at_all_has_a_lesser_one(self):
        picked = random.Random(173)
        for chart, sides, ranking, comings in some_ranked(173, 60):
            book = book_of(chart, sides, ranking)
            way = drawn_glide(picked, chart, sides, book, picked.randrange(4))
            call = (chart, sides, book, way[0][0], way[-1][0])
            slide = slide_of(chart, book, way)
            self.assertIs(can_slide(*call, slide), True)
            self.assertGreaterEqual(worth(slide), worth(least_slide(*call)))
            # Of all with pairs at the EVENTS that slide no more this one has each offset the least.
            stops = events(book, way[0][0], way[-1][0])
            ours = offsets(chart, book, glide_within(*call, slide))
            theirs = offsets(chart, book, tuple([own for own in way if own[0] in stops]))
            self.assertTrue(all([ours[spot] <= theirs[spot] for spot in ours]))

    def test_the_slowest(self):
        for chart, sides, book, first, last in some_zooms(174, 50, 4, 3):
            call = (chart, sides, book, first, last)
            slide, way = least_slide(*call), slowest(*call)
            self.told(way, slowest, *call)
            self.assertEqual(way, glide_within(*call, slide))
            self.assertEqual(slide_of(chart, book, way), slide)
            self.assertIs(is_glide(chart, sides, book, way), True)
            self.assertLessEqual(worth(slide), worth(slide_of(chart, book, glide(*call))))
            middle = pair((worth(way[0][0]) + worth(way[1][0])) / 2)
            self.assertEqual(slide_of(chart, book, stopped(book, way, middle)), slide)

    def test_turned_to_the_other_axis(self):
        for chart, sides, book, first, last in some_zooms(175, 30):
            other = by_axes(chart, sides)
            self.assertEqual(least_slide(*other, book, first, last), least_slide(chart, sides, book, first, last))

    def test_sixteen_names(self):
        picked = random.Random(176)
        above = 0
        for number in range(4):
            chart, sides = drawn_loose(picked, 16) if number % 2 else (drawn_map(picked, 16), None)
            chart = sized(chart, 10 ** 3)
            for own in (sides or by_rule(chart), all_beside(chart), drawn_sides(picked, 16)):
                book = book_of(chart, own, drawn_row(picked, 16))
                call = (chart, own, book, (1, 10 ** 6), (10 ** 6, 1))
                slide, way = least_slide(*call), slowest(*call)
                self.assertIs(is_glide(chart, own, book, way), True)
                self.assertEqual(slide_of(chart, book, way), slide)
                if slide != (0, 1):
                    above += 1
                    paper = ring(*call)
                    self.assertIs(is_ring(*call, paper), True)
                    self.assertEqual(ratio_of(chart, book, *call[3:], paper), slide)
                    self.assertIs(can_slide(*call, pair(worth(slide) * (1 - fractions.Fraction(1, 10 ** 9)))), False)
        self.assertGreater(above, 4)

    def test_what_is_returned_is_passed_in_again(self):
        chart = sized(spread(THREE, 10 ** 6), 10 ** 12)
        book = tuple([pair(worth(own) * 10 ** 6) for own in BOOK])
        call = (chart, LEFTS, book, pair(worth(ONE) * 10 ** 6), pair(worth(TWO) * 10 ** 6))
        self.assertEqual(worth(least_slide(*call)), 2 * 10 ** 6)
        way, paper = slowest(*call), ring(*call)
        self.judged(is_glide, [way], [as_lists(way)], chart, LEFTS, book)
        self.judged(is_ring, [paper], [mixed(paper)], *call)
        self.assertEqual(glide_within(*call, ratio_of(chart, book, *call[3:], paper)), way)


class TestRings(Calls):
    def test_as_told(self):
        self.told((2, 1), ratio_of, THREE, BOOK, ONE, TWO, ROUND)
        self.told((0, 1), ratio_of, THREE, BOOK, ONE, TWO, (0, ((1, 0), (1, 1))))
        self.told((-4, 1), ratio_of, THREE, BOOK, ONE, TWO, (0, (None, (1, 0), (1, 1))))
        self.refused(CanNot, {}, ratio_of, THREE, BOOK, ONE, TWO, (0, (None, (0, 0))))
        self.refused(CanNot, {}, ratio_of, THREE, BOOK, ONE, TWO, (0, (None, (0, 1), (1, 1), (2, 1))))
        # Within what is asked nothing counts that is not on the way; each spot may be the first one.
        spots = ROUND[1]
        for at in range(len(spots)):
            turned = (0, spots[at:] + spots[:at])
            self.told((2, 1), ratio_of, THREE, BOOK, ONE, TWO, turned)
            self.judged(is_ring, [turned], (), THREE, LEFTS, BOOK, ONE, TWO)

    def test_things(self):
        spots = ROUND[1]
        yes = [ROUND, (0, ((1, 0), (1, 1))), (0, (None, (0, 0))), (0, ((0, 0), None)), (1, (None, (0, 0))), (1, (None, (2, 1))),
               (0, (None, (0, 0), (0, 1))), (0, (None, (0, 0), (1, 0))), (0, (None, (0, 1), (2, 1))), (0, ((0, 1), (0, 0), (1, 0), None))]
        no = [(0, (None, (2, 0))), (0, (None,)), (0, ()), (0, ((0, 0),)), (0, (None, None)), (0, (None, (0, 0), (0, 0))), (0, (None, (1, 0), (0, 0))),
              (0, (None, (0, 0), (1, 1))), (0, (None, (0, 0), (0, 2))), (0, (None, (3, 0))), (0, (None, (-3, 0))), (0, (None, (0, -1))),
              (0, ((0, 0), (1, 0))), (0, ((0, 0), (1, 0), (1, 1), (0, 1))), (1, spots), (2, spots), (-1, spots), (False, spots), (None, spots),
              [0, spots], (0, list(spots)), as_lists(ROUND), mixed(ROUND), ROUND + (0,), spots, (0,), (0, spots + spots), (0, spots + (None,)),
              (0, (None, (0, 0, 0))), (0, (None, (0,))), (0, (None, [0, 0])), (0, (None, (False, 0))), (0, (None, (0, False))), (0, (None, (0, True), (0, 0))),
              (0, ("None", (0, 0))), (0, (False, (0, 0))), (0, (0, (0, 0))), (0, ((), (0, 0))), (0, ((None,), (0, 0))), (0, (None, (0, None)))]
        no += [put(ROUND, 0, thing) for thing in THINGS if thing != 0 or thing is False] + [put(ROUND, 1, thing) for thing in unlike(THINGS, [])]
        no += [(0, put(spots, at, thing)) for at in range(1, 5) for thing in unlike(THINGS, ["None"])]
        no = [own for own in no if repr(own) not in map(repr, yes)]
        no = [own for own in no if repr(own) not in ((repr((0, put(spots, 4, (1, 1)))), repr((1, ((1, 1),)))))]
        self.judged(is_ring, yes, no + list(THINGS), THREE, LEFTS, BOOK, ONE, TWO)
        self.judged(is_ring, (), [(0, nested(99, tuple)), (0, (None, nested(98, tuple))), (0, (None, nested(98, list)))], THREE, LEFTS, BOOK, ONE, TWO)

    def test_all_rows_of_spots(self):
        for chart, sides, book, first, last in some_zooms(177, 12, 2, 1):
            call = (chart, sides, book, first, last)
            scales = [worth(own) for own in events(book, first, last)]
            right = set(all_rings(chart, sides, book, scales, 3))
            spots = [None] + [(name, at) for name in range(len(chart)) for at in range(len(scales) + 1)]
            for many in (1, 2, 3):
                for row, axis in itertools.product(itertools.product(spots, repeat=many), (0, 1)):
                    self.assertIs(is_ring(*call, (axis, row)), (axis, row) in right)

    def test_bans_and_parts_of_the_zoom(self):
        # By SIDES with a BAN nobody pushes; and the EVENTS are those between both SCALES.
        barred = ((), (2,), (0, 0))
        self.judged(is_ring, [(0, (None, (0, 0)))], [(0, (None, (0, 0), (1, 0)))], THREE, barred, ((0, 1), None, (0, 1)), TWO, (3, 1))
        self.judged(is_ring, [(0, (None, (2, 1))), (0, (None, (1, 0), (1, 1), (2, 1)))], [(0, (None, (2, 2))), (0, (None, (2, 0)))],
                    THREE, LEFTS, BOOK, (3, 2), TWO)
        self.told((0, 1), least_slide, THREE, LEFTS, BOOK, (2, 1), (3, 1))


class TestErrors(Calls):
    def calls(self):
        """Each function but ratio_of, and what it is passed behind the SCALES."""
        for function in (least_slide, slowest, ring):
            yield function, ()
        for function in (can_slide, glide_within, ring_above):
            yield function, ((2, 1),)
        for thing in (ROUND, None, nested(100, list)):
            yield is_ring, (thing,)

    def test_unfit(self):
        for function, rest in self.calls():
            for book in (BOOK, AT_ONCE):
                for first, last in ((TWO, TWO), (TWO, ONE), ((10, 3), (3, 1))):
                    self.refused(Unfit, {}, function, THREE, LEFTS, book, first, last, *rest)
            # A LOT SHOWN that can not stand at the first EVENT, at one between, with a BAN.
            self.refused(Unfit, {}, function, THREE, LEFTS, AT_ONCE, ONE, TWO, *rest)
            self.refused(Unfit, {}, function, THREE, LEFTS, ((0, 1), (1, 1), (3, 2)), ONE, TWO, *rest)
            self.refused(Unfit, {}, function, THREE, ((), (2,), (0, 0)), BOOK, ONE, TWO, *rest)

    def test_ratios(self):
        for first, last in ((TWO, TWO), (TWO, ONE)):
            self.refused(Unfit, {}, ratio_of, THREE, BOOK, first, last, ROUND)
            self.refused(Unfit, {}, ratio_of, THREE, BOOK, first, last, (0, (None, (0, 0))))
        # It does not ask whether LOTS can stand.
        self.told((0, 1), ratio_of, THREE, AT_ONCE, ONE, TWO, (0, ((1, 0), (1, 1))))

    def test_can_not(self):
        self.refused(CanNot, {}, glide_within, THREE, LEFTS, BOOK, ONE, TWO, (1999, 1000))
        self.refused(CanNot, {}, ring_above, THREE, LEFTS, BOOK, ONE, TWO, (2, 1))
        self.refused(CanNot, {}, ring, THREE, LEFTS, BOOK, TWO, (3, 1))
        self.refused(CanNot, {}, ring, THREE, LEFTS, (None,) * 3, ONE, TWO)
        self.refused(CanNot, {}, ring_above, THREE, LEFTS, (None,) * 3, ONE, TWO, (0, 1))
