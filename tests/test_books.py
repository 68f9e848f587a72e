"""Steady books [13]: who comes when and why, beside reckonings number by number and by all chains there are."""

import fractions
import itertools
import random

from glidenames.books import (
    arrivals, book_of, comes_at, fall, is_book, is_fall, is_ranking, is_reason, is_sooner, is_steady, keeps, lots_shown,
    reason, shown, unlike_at,
)
from glidenames.chains import is_chain, number_of
from glidenames.errors import CanNot, NoPlace
from glidenames.maps import sized, spread
from glidenames.sides import all_beside, bans, by_rule, is_ban
from glidenames.stands import can_stand, coming
from tests import reckoned
from tests.drawn import STILL, drawn_map, drawn_row, drawn_sides, some_loose, some_maps
from tests.kit import THINGS, Calls, as_lists, mixed, nested, put, unlike
from tests.reckoned import EVER, all_chains, number, numbers_about, pair, worth

FOUR = tuple([(4, 1, (place, 2, place, 2), STILL) for place in (0, 3, 6, 9)])
LEFTS = ((), (0,), (0, 0), (0, 0, 0))
BANNED = ((), (2,), (0, 0), (0, 0, 0))
ORDER = (0, 2, 3, 1)
BOOK = ((0, 1), (8, 9), (0, 1), (4, 9))
LATE, SOON = ((0, 1), (1, 1), (0, 1), (4, 9)), ((0, 1), (2, 3), (0, 1), (4, 9))
WRONG = (-1, -4, 4, 10 ** 6, -10 ** 6)
# Without 0 NAME 1 comes at 0 and holds 2 till 2.
GAP = ((8, 1, (0, 0, 0, 0), STILL), (6, 1, (2, 0, 2, 0), STILL), (4, 1, (5, 0, 5, 0), STILL))
# Both alike and nothing to spare: neither beside the other nor above it, ever.
PAIR = ((4, 1, STILL, STILL), (4, 1, STILL, STILL))


def some_ranked(seed, many, most=4):
    """Quadruples of a MAP, SIDES, a RANKING and the COMINGS of all its LOTS."""
    picked = random.Random(seed)
    for chart, sides, _ in [*some_maps(seed, many, most), *some_loose(seed, many, most)]:
        yield chart, sides, drawn_row(picked, len(chart)), reckoned.all_comings(chart, sides)


def by_name(book):
    return {name: worth(own) for name, own in enumerate(book)}


def drawn_book(picked, book, comings):
    """A BOOK, often like this one and later."""
    numbers = [pair(own) for own in {*comings.values(), 0, 1, fractions.Fraction(5, 3)}]
    return tuple([own if picked.randrange(3) else picked.choice(numbers) for own in book])


class TestIsRanking(Calls):
    def test_all_rows(self):
        for many in (1, 2, 3):
            rows = [row for length in range(5) for row in itertools.product(range(-1, many + 1), repeat=length)]
            right = list(itertools.permutations(range(many)))
            self.judged(is_ranking, right, [row for row in rows if row not in right], FOUR[:many])

    def test_things(self):
        no = [list(ORDER), as_lists(ORDER), (0, 2, 3, True), (False, 2, 3, 1), (ORDER,), (0, 2, 3, 1, 1), (0, 1, 1, 2), (0, 2, 3, "1"),
              (0, 2, 3, (1,)), (0, 2, 3, None), (4, 3, 2, 1), (0, 0, 0, 0)]
        self.judged(is_ranking, [ORDER, (3, 2, 1, 0)], no + list(THINGS), FOUR)
        self.judged(is_ranking, [], unlike(THINGS, []) + [(True,), (1,), (0, 0)], FOUR[:1])
        self.judged(is_ranking, [(0,)], [(False,), [0], 0], FOUR[:1])
        self.judged(is_ranking, [tuple(range(16))], [tuple(range(1, 17)), tuple(range(17))], FOUR * 4)


class TestIsBook(Calls):
    def test_books(self):
        yes = [BOOK, LATE, SOON, (None,) * 4, ((0, 1),) * 4, ((10 ** 400, 7),) * 4, put(BOOK, 0, None)]
        no = [list(BOOK), as_lists(BOOK), mixed(BOOK), BOOK[:3], BOOK + BOOK[:1], (BOOK,), ((2, 2),) * 4]
        for new in ((0, 2), (2, 4), (-1, 2), (1, -2), (1, 0), (0, 0), (1,), (1, 1, 1), [1, 1], (True, 1), (1, True), 0, 1, False, "0"):
            no += [put(BOOK, place, new) for place in range(4)]
        self.judged(is_book, yes, no + list(THINGS), FOUR)
        for place in (0, 3):
            self.judged(is_book, (), [put(BOOK, place, thing) for thing in unlike(THINGS, ["None"]) if thing not in ((1, 1), None)], FOUR)
        self.judged(is_book, [((0, 1),), (None,)], [(), (0, 1), None, [None], [(0, 1)], ((None,),)], FOUR[:1])


class TestBookOf(Calls):
    def test_as_told(self):
        self.told(BOOK, book_of, FOUR, LEFTS, ORDER)
        self.told(((0, 1), None, (0, 1), (4, 9)), book_of, FOUR, BANNED, (0, 1, 2, 3))
        self.told(((0, 1), (4, 1), (8, 5)), book_of, GAP, LEFTS[:3], (0, 1, 2))
        self.told(((0, 1),), book_of, FOUR[:1], ((),), (0,))
        for ranking in ((0, 1), (1, 0)):
            for sides in (((), (0,)), ((), (1,)), ((), (2,))):
                self.told(put(((0, 1),) * 2, ranking[1], None), book_of, PAIR, sides, ranking)
        # Several at one number, and all at 0.
        twice = tuple([(4, 1, (place, 0, place, 0), STILL) for place in (0, 3, 6)])
        self.told(((4, 3), (0, 1), (4, 3)), book_of, twice, LEFTS[:3], (1, 0, 2))
        self.told(((0, 1),) * 3, book_of, ((4, 1, (0, 9, 0, 9), STILL),) * 3, LEFTS[:3], (2, 0, 1))

    def test_number_by_number(self):
        kinds = []
        for chart, sides, ranking, comings in some_ranked(141, 90):
            own = reckoned.book_told(reckoned.steady(chart, sides, ranking, comings))
            self.same(book_of(chart, sides, ranking), own)
            self.told(own, book_of, chart, sides, ranking)
            for name in range(len(chart)):
                self.told(own[name], comes_at, chart, sides, ranking, name)
            kinds.append((None in own, len(arrivals(own)) > 1))
        self.assertEqual(len({*kinds}), 4)

    def test_by_all_chains(self):
        picked = random.Random(142)
        for chart, sides, _ in [*some_maps(142, 60, 6), *some_loose(142, 60, 6)]:
            ranking = drawn_row(picked, len(chart))
            book = by_name(book_of(chart, sides, ranking))
            for rank, name in enumerate(ranking):
                above = ranking[:rank]
                numbers = [0]
                for axis, names in all_chains(chart, sides, above + (name,)):
                    others = [book[one] for one in names if one != name]
                    own = number(chart, (axis, names))
                    if name in names and all([one < own for one in others]):
                        numbers.append(own)
                if [ban for ban in bans(sides) if name in ban and any([one in above and book[one] < EVER for one in ban])]:
                    numbers.append(EVER)
                self.assertEqual(book[name], max(numbers))

    def test_not_again_once_one_of_higher_rank_has_come(self):
        # NAME 2 could stand from 0 on, but not once NAME 1 comes: that while does not count.
        book = by_name(book_of(GAP, LEFTS[:3], (0, 2, 1)))
        self.assertEqual(book, {0: 0, 2: fractions.Fraction(8, 5), 1: 4})
        found = 0
        for chart, sides, ranking, comings in some_ranked(143, 100):
            book = reckoned.steady(chart, sides, ranking, comings)
            for rank, name in enumerate(ranking):
                above = {one: book[one] for one in ranking[:rank]}
                scales = [own for own in turns_above(comings, above) if own < book[name]]
                found += any([comings[tuple(sorted({*reckoned.shown(above, own), name}))] <= own for own in scales])
        self.assertGreater(found, 5)

    def test_lower_ones_never_matter(self):
        picked = random.Random(144)
        for chart, sides, ranking, _ in some_ranked(144, 50, 5):
            own = book_of(chart, sides, ranking)
            for rank in range(len(ranking) + 1):
                tail = tuple(picked.sample(ranking[rank:], len(ranking) - rank))
                there = book_of(chart, sides, ranking[:rank] + tail)
                self.assertEqual([there[name] for name in ranking[:rank]], [own[name] for name in ranking[:rank]])
            self.assertEqual(own[ranking[0]], (0, 1))

    def test_sixteen_names(self):
        picked = random.Random(145)
        for _ in range(4):
            chart = sized(drawn_map(picked, 16), 10 ** 3)
            for sides in (by_rule(chart), all_beside(chart), drawn_sides(picked, 16)):
                ranking = drawn_row(picked, 16)
                book = book_of(chart, sides, ranking)
                self.judged(is_book, [book], (), chart)
                self.assertIs(keeps(chart, sides, book), True)
                for own, lot in lots_shown(book):
                    self.assertTrue(own == (0, 1) or can_stand(chart, sides, lot, own))
                for rank, name in enumerate(ranking):
                    if book[name] != (0, 1):
                        paper = reason(chart, sides, ranking, name)
                        self.assertIs(is_reason(chart, sides, ranking, name, paper), True)
                        self.assertLessEqual({*paper_names(paper)}, {*ranking[:rank + 1]})

    def test_what_is_returned_is_passed_in_again(self):
        chart = sized(spread(FOUR, 10 ** 6), 10 ** 12)
        book = book_of(chart, LEFTS, ORDER)
        self.assertEqual([worth(own) for own in book], [worth(own) * 10 ** 6 for own in BOOK])
        self.judged(is_steady, [book], [as_lists(book)], chart, LEFTS, ORDER)
        self.told(True, keeps, chart, LEFTS, book)


class TestIsSteady(Calls):
    def test_things(self):
        no = [LATE, SOON, as_lists(BOOK), list(BOOK), mixed(BOOK), BOOK[:3], BOOK + BOOK[:1], (None,) * 4, ((0, 1),) * 4]
        for new in ((0, 2), (0, 1, 1), (0,), [0, 1], (False, 1), (0, True), None, 0, False, (4, 9), "0"):
            no += [put(BOOK, 0, new), put(BOOK, 2, new)]
        no += [put(BOOK, 1, new) for new in ((16, 18), (-8, -9), (8, 9, 0), [8, 9], None, (9, 8))]
        self.judged(is_steady, [BOOK], no + list(THINGS), FOUR, LEFTS, ORDER)
        own = ((0, 1), None, (0, 1), (4, 9))
        self.judged(is_steady, [own], [put(own, 1, thing) for thing in THINGS if thing is not None], FOUR, BANNED, (0, 1, 2, 3))

    def test_unlike_rankings_with_equal_books(self):
        for ranking, told in ((ORDER, True), ((2, 0, 3, 1), True), ((0, 3, 2, 1), False), ((0, 2, 1, 3), False)):
            self.judged(is_steady, [BOOK] if told else [], [] if told else [BOOK], FOUR, LEFTS, ranking)


class TestReason(Calls):
    def test_as_told(self):
        self.told((0, (0, 1, 2, 3)), reason, FOUR, LEFTS, ORDER, 1)
        self.told((0, (0, 2, 3)), reason, FOUR, LEFTS, ORDER, 3)
        self.told((0, 1), reason, FOUR, BANNED, (0, 1, 2, 3), 1)
        self.told((2, 3), comes_at, FOUR, LEFTS, (0, 2, 1, 3), 1)
        for name in (0, 2):
            self.refused(CanNot, {}, reason, FOUR, LEFTS, ORDER, name)

    def test_names_that_are_none(self):
        for name in WRONG:
            kept = {"place": name}
            self.refused(NoPlace, kept, comes_at, FOUR, LEFTS, ORDER, name)
            self.refused(NoPlace, kept, reason, FOUR, LEFTS, ORDER, name)
            for thing in (None, (0, (0,)), nested(100, tuple)):
                self.refused(NoPlace, kept, is_reason, FOUR, LEFTS, ORDER, name, thing)

    def test_things(self):
        own = (0, (0, 1, 2, 3))
        no = [(0, (0, 1, 2)), (0, (0, 2, 3)), [0, (0, 1, 2, 3)], (0, [0, 1, 2, 3]), (False, (0, 1, 2, 3)), (0, (False, 1, 2, 3)), (0, (0, True, 2, 3)),
              (1, (0, 1, 2, 3)), (0, (0, 1, 3)), (0, (3, 2, 1, 0)), (0, (1,)), (0, (0, 1, 2, 3, 4)), own + (0,), own[1], (0, 1), (1, 0), (own,)]
        self.judged(is_reason, [own], no + list(THINGS), FOUR, LEFTS, ORDER, 1)
        for name in (0, 2):
            self.judged(is_reason, (), [own, (0, (0, 2, 3)), (0, (name,)), *no], FOUR, LEFTS, ORDER, name)
        # A BAN: of the NAME, with one of higher rank that comes.
        no = [(1, 0), [0, 1], (False, 1), (0, True), (0, 2), (1, 2), (0, 1, 2), (0, (0, 1)), (0, (1,)), (0, (0, 1, 2, 3))]
        self.judged(is_reason, [(0, 1)], no + list(THINGS), FOUR, BANNED, (0, 1, 2, 3), 1)
        self.judged(is_reason, [(0, 1)], no, FOUR, BANNED, (1, 0, 2, 3), 0)
        self.judged(is_reason, (), [(0, 1), *no], FOUR, BANNED, (1, 0, 2, 3), 1)
        # One of higher rank that never comes itself keeps nobody from coming.
        three = PAIR + ((4, 1, STILL, STILL),)
        sides = ((), (2,), (1, 2))
        self.told(((0, 1), None, None), book_of, three, sides, (0, 1, 2))
        self.judged(is_reason, [(1, (0, 2))], [(1, 2), (0, 2), (0, 1)], three, sides, (0, 1, 2), 2)

    def test_beside_all_chains_and_bans(self):
        for chart, sides, ranking, comings in some_ranked(146, 60):
            book = reckoned.steady(chart, sides, ranking, comings)
            papers = all_chains(chart, sides, range(len(chart))) + list(itertools.combinations(range(len(chart)), 2))
            for rank, name in enumerate(ranking):
                above, right = ranking[:rank], []
                for paper in papers:
                    others = [one for one in paper_names(paper) if one != name]
                    fits = name in paper_names(paper) and all([one in above and book[one] < EVER for one in others])
                    if isinstance(paper[1], tuple):
                        own = number(chart, paper)
                        fits = fits and own == book[name] and all([book[one] < own for one in others])
                    else:
                        fits = fits and paper in bans(sides) and book[name] == EVER
                    if fits and book[name] > 0:
                        right.append(paper)
                call = (chart, sides, ranking, name)
                self.judged(is_reason, right, [paper for paper in papers if paper not in right], *call)
                if book[name] == 0:
                    self.refused(CanNot, {}, reason, *call)
                else:
                    self.assertIn(reason(*call), right)
                    self.told(reason(*call), reason, *call)


class TestShown(Calls):
    def test_as_told(self):
        self.told(((4, 9), (8, 9)), arrivals, BOOK)
        self.told((0, 2, 3), shown, BOOK, (4, 9))
        self.told([((0, 1), (0, 2)), ((4, 9), (0, 2, 3)), ((8, 9), (0, 1, 2, 3))], lots_shown, BOOK)
        for scale, lot in (((1, 10 ** 12), (0, 2)), ((43, 97), (0, 2)), ((47, 100), (0, 2, 3)), ((887, 999), (0, 2, 3)),
                           ((8, 9), (0, 1, 2, 3)), ((10 ** 12, 1), (0, 1, 2, 3))):
            self.told(lot, shown, BOOK, scale)

    def test_none_at_all_and_several_at_one_number(self):
        self.told((), arrivals, ((0, 1),) * 4)
        self.told((), arrivals, (None,) * 4)
        self.told([((0, 1), ())], lots_shown, (None, None))
        self.told([((0, 1), (0, 1))], lots_shown, ((0, 1),) * 2)
        self.told((), shown, (None, (2, 1)), (1, 1))
        # Ascending by their numbers, not as pairs.
        book = ((1, 2), (2, 9), None, (1, 2), (10, 3), (3, 1), (2, 9))
        self.told(((2, 9), (1, 2), (3, 1), (10, 3)), arrivals, book)
        self.told([((0, 1), ()), ((2, 9), (1, 6)), ((1, 2), (0, 1, 3, 6)), ((3, 1), (0, 1, 3, 5, 6)), ((10, 3), (0, 1, 3, 4, 5, 6))], lots_shown, book)

    def test_lists_are_new(self):
        one, other = lots_shown(BOOK), lots_shown(BOOK)
        one.clear()
        self.assertEqual(len(other), 3)
        self.assertEqual(lots_shown(BOOK), other)


class TestKeeps(Calls):
    def test_as_told(self):
        for book, told in ((BOOK, True), (LATE, True), (SOON, False), ((None,) * 4, True), (put(BOOK, 1, (887, 999)), False)):
            self.told(told, keeps, FOUR, LEFTS, book)
        self.told((0, (0, 1, 2, 3)), fall, FOUR, LEFTS, SOON)
        self.told((0, 1), fall, FOUR, BANNED, LATE)
        for book in (BOOK, LATE, (None,) * 4):
            self.refused(CanNot, {}, fall, FOUR, LEFTS, book)
        # Two that are a BAN, one of which never comes; and some that could stand at 0 alone.
        self.told(True, keeps, FOUR, BANNED, put(LATE, 1, None))
        self.told(False, keeps, FOUR, LEFTS, ((0, 1),) * 4)

    def test_things(self):
        own = (0, (0, 1, 2, 3))
        no = [(0, (0, 1, 2)), (0, (0, 2, 3)), [0, (0, 1, 2, 3)], (0, [0, 1, 2, 3]), (False, (0, 1, 2, 3)), (0, (0, True, 2, 3)), (0, 1), own + (0,), (own,)]
        self.judged(is_fall, [own], no + list(THINGS), FOUR, LEFTS, SOON)
        self.judged(is_fall, (), [own, *no], FOUR, LEFTS, BOOK)
        self.judged(is_fall, (), [own, *no], FOUR, LEFTS, put(SOON, 3, None))
        self.judged(is_fall, [(0, 1)], [(1, 0), [0, 1], (False, 1), (0, True), (0, 2), (0, (0, 2, 3)), own, *THINGS], FOUR, BANNED, LATE)
        self.judged(is_fall, (), [(0, 1)], FOUR, BANNED, put(LATE, 1, None))
        # Of a NUMBER of None, at whatever numbers they come.
        self.judged(is_fall, [(0, (0, 1))], [(0, 1), (0, (0,))], PAIR, ((), (0,)), ((0, 1), (10 ** 12, 1)))
        self.judged(is_fall, (), [(0, (0, 1))], PAIR, ((), (0,)), ((0, 1), None))

    def test_beside_all_chains_and_bans(self):
        picked = random.Random(147)
        kinds = []
        for chart, sides, ranking, comings in some_ranked(147, 80):
            for book in (book_of(chart, sides, ranking), drawn_book(picked, book_of(chart, sides, ranking), comings)):
                numbers = by_name(book)
                told = reckoned.never_falls(comings, numbers)
                self.told(told, keeps, chart, sides, book)
                papers = all_chains(chart, sides, range(len(chart))) + list(itertools.combinations(range(len(chart)), 2))
                right = []
                for paper in papers:
                    last = max([numbers[one] for one in paper_names(paper)])
                    if isinstance(paper[1], tuple):
                        fits = last < EVER and number(chart, paper) > last
                    else:
                        fits = last < EVER and paper in bans(sides)
                    if fits:
                        right.append(paper)
                self.assertIs(len(right) == 0, told)
                self.judged(is_fall, right, [paper for paper in papers if paper not in right], chart, sides, book)
                if right:
                    self.assertIn(fall(chart, sides, book), right)
                    self.told(fall(chart, sides, book), fall, chart, sides, book)
                else:
                    self.refused(CanNot, {}, fall, chart, sides, book)
                kinds.append(told)
        self.assertGreater(min(kinds.count(True), kinds.count(False)), 10)


class TestSooner(Calls):
    def test_as_told(self):
        self.told(True, is_sooner, ORDER, BOOK, LATE)
        self.told(False, is_sooner, ORDER, LATE, BOOK)
        self.told(False, is_sooner, ORDER, BOOK, BOOK)
        self.told((1,), unlike_at, BOOK, SOON)
        self.told((), unlike_at, BOOK, BOOK)
        self.told((0, 1, 3), unlike_at, (None, (1, 2), None, (2, 9)), ((0, 1), None, None, (1, 2)))
        # The first NAME of the RANKING at which they are unlike decides; None is the greatest; by their numbers.
        one, other = ((0, 1), (5, 1), None, (10, 3)), ((0, 1), (2, 1), (9, 1), (3, 1))
        for ranking, told in (((0, 1, 2, 3), False), ((0, 2, 1, 3), False), ((3, 0, 1, 2), False), ((1, 0, 2, 3), False)):
            self.told(told, is_sooner, ranking, one, other)
            self.told(not told, is_sooner, ranking, other, one)
        self.told(True, is_sooner, (1, 0), ((9, 1), (2, 9)), ((0, 1), (1, 2)))
        self.told(False, is_sooner, (0, 1), ((9, 1), (2, 9)), ((0, 1), (1, 2)))
        self.told(False, is_sooner, (0, 1), (None, (0, 1)), (None, (0, 1)))

    def test_the_steady_one_is_sooner_than_every_other_one_that_keeps(self):
        beaten = 0
        for chart, sides, ranking, comings in some_ranked(148, 25, 3):
            steady = book_of(chart, sides, ranking)
            numbers = [pair(own) for own in {0, EVER, *comings.values(), *[own + 1 for own in comings.values()]}]
            for book in itertools.product(numbers, repeat=len(chart)):
                if reckoned.never_falls(comings, by_name(book)) and book != steady:
                    beaten += 1
                    self.assertIs(is_sooner(ranking, steady, book), True)
                    self.assertIs(is_sooner(ranking, book, steady), False)
        self.assertGreater(beaten, 200)


class TestGuarantees(Calls):
    def test_who_comes_late_could_not_come_sooner(self):
        for chart, sides, ranking, _ in some_ranked(149, 40, 5):
            book = book_of(chart, sides, ranking)
            for name in range(len(chart)):
                if book[name] not in (None, (0, 1)):
                    for scale in numbers_about([worth(book[name])]):
                        sooner = put(book, name, pair(scale))
                        if scale < worth(book[name]):
                            higher = tuple([one if other in ranking[:ranking.index(name) + 1] else None for other, one in enumerate(sooner)])
                            self.assertIs(keeps(chart, sides, higher), False)
                    paper = reason(chart, sides, ranking, name)
                    self.assertIs(is_chain(chart, sides, paper), True)
                    self.assertEqual(number_of(chart, paper), book[name])
                    self.assertEqual(coming(chart, sides, tuple(sorted(paper_names(paper)))), book[name])
                elif book[name] is None:
                    paper = reason(chart, sides, ranking, name)
                    self.assertTrue(is_ban(sides, paper) or number_of(chart, paper) is None)


def paper_names(paper):
    """The NAMES of a CHAIN or a BAN."""
    return paper[1] if isinstance(paper[1], tuple) else paper


def turns_above(comings, numbers):
    return [own for own in reckoned.turns(comings, numbers.values()) if own > 0]
