"""Ranks [14]: rankings and what a rank matters, beside the steady books of all rankings there are."""

import itertools
import random

from glidenames.books import book_of, is_ranking, is_steady, keeps
from glidenames.errors import CanNot, NoPlace, Unfit
from glidenames.maps import sized, spread
from glidenames.ranks import (
    by_class, by_rank, by_size, exchanged, freed, grounded, held_by, is_of, order_matters, rank_for, rank_of, raised,
    ranked_first, ranking_for,
)
from glidenames.sides import all_beside, by_rule
from glidenames.stands import coming
from tests import reckoned
from tests.drawn import STILL, drawn_map, drawn_row, drawn_sides
from tests.kit import Calls, put
from tests.reckoned import EVER, numbers_about, pair, worth
from tests.test_books import BANNED, BOOK, FOUR, GAP, LATE, LEFTS, ORDER, PAIR, SOON, WRONG, by_name, drawn_book, some_ranked

ROWS = [row for row in itertools.permutations(range(4)) if row[1] != 0]


def plain_freed(chart, sides, ranking, name, comings):
    """The steady numbers of all others alone, EVER for name."""
    others = tuple([one for one in ranking if one != name])
    return {**reckoned.steady(chart, sides, others, comings), name: EVER}


def books_of_all(chart, sides, comings):
    """The steady BOOK of each RANKING there is, RANKINGS ascending."""
    return {ranking: reckoned.book_told(reckoned.steady(chart, sides, ranking, comings))
            for ranking in itertools.permutations(range(len(chart)))}


class TestRankings(Calls):
    def test_by_class(self):
        self.told((1, 3, 0, 2), by_class, FOUR, (1, 0, 1, 0))
        self.told((0, 1, 2, 3), by_class, FOUR, (7,) * 4)
        self.told((3, 1, 0, 2), by_class, FOUR, (5, 0, 5, -10 ** 12))
        self.told((0,), by_class, FOUR[:1], (9,))
        for classes in ((), (1, 0, 1), (1, 0, 1, 0, 1)):
            self.refused(Unfit, {}, by_class, FOUR, classes)

    def test_by_size(self):
        chart = tuple([(width, height, STILL, STILL) for width, height in ((2, 3), (1, 7), (3, 2), (6, 1), (9, 9), (7, 1))])
        self.told((4, 1, 5, 0, 2, 3), by_size, chart)
        self.told((0, 1, 2, 3), by_size, FOUR)
        self.told((0,), by_size, FOUR[:1])
        picked = random.Random(151)
        for _ in range(20):
            chart = drawn_map(picked, 16)
            self.told(tuple(sorted(range(16), key=lambda name: (-chart[name][0] * chart[name][1], name))), by_size, chart)

    def test_places_in_rankings(self):
        for rank, name in enumerate(ORDER):
            self.told(rank, rank_of, ORDER, name)
        self.told((1, 0, 2, 3), raised, ORDER, 1, 0)
        self.told((0, 2, 1, 3), exchanged, ORDER, 2)
        self.told((3, 1, 0, 2), ranked_first, ORDER, (1, 3))
        self.told(ORDER, ranked_first, ORDER, ())
        self.told(ORDER, ranked_first, ORDER, (0, 1, 2, 3))
        self.told((0,), raised, (0,), 0, 0)
        for ranking in ROWS:
            for name, rank in itertools.product(range(4), repeat=2):
                others = [one for one in ranking if one != name]
                others.insert(rank, name)
                self.told(tuple(others), raised, ranking, name, rank)
                self.assertEqual(rank_of(raised(ranking, name, rank), name), rank)
            for rank in range(3):
                row = list(ranking)
                row[rank], row[rank + 1] = row[rank + 1], row[rank]
                self.told(tuple(row), exchanged, ranking, rank)
        for lot in itertools.chain(*[itertools.combinations(range(4), many) for many in range(5)]):
            row = sorted(ORDER, key=lambda name: (name not in lot, ORDER.index(name)))
            self.told(tuple(row), ranked_first, ORDER, lot)

    def test_places_that_are_none(self):
        for name in WRONG:
            kept = {"place": name}
            self.refused(NoPlace, kept, rank_of, ORDER, name)
            # The NAME first, then the rank.
            self.refused(NoPlace, kept, raised, ORDER, name, 0)
            self.refused(NoPlace, kept, raised, ORDER, name, 77)
            self.refused(NoPlace, kept, raised, ORDER, 0, name)
            self.refused(NoPlace, kept, exchanged, ORDER, name)
            self.refused(NoPlace, kept, order_matters, FOUR, LEFTS, ORDER, name)
            for function in (by_rank, freed, held_by):
                self.refused(NoPlace, kept, function, FOUR, LEFTS, ORDER, name)
            self.refused(NoPlace, kept, rank_for, FOUR, LEFTS, ORDER, name, (1, 1))
        self.refused(NoPlace, {"place": 3}, exchanged, ORDER, 3)
        self.refused(NoPlace, {"place": 3}, order_matters, FOUR, LEFTS, ORDER, 3)
        for function in (exchanged, lambda ranking, rank: order_matters(FOUR[:1], ((),), ranking, rank)):
            self.refused(NoPlace, {"place": 0}, function, (0,), 0)


class TestRanks(Calls):
    def test_as_told(self):
        self.told(((0, 1), (0, 1), (2, 3), (8, 9)), by_rank, FOUR, LEFTS, ORDER, 1)
        for scale, rank in (((2, 3), 2), ((8, 9), 3), ((887, 999), 2), ((66, 100), 1), ((1, 10 ** 12), 1), ((10 ** 12, 1), 3)):
            self.told(rank, rank_for, FOUR, LEFTS, ORDER, 1, pair(worth(scale)))
        self.told(((0, 1), (2, 3), (0, 1), None), freed, FOUR, LEFTS, ORDER, 3)
        self.told(((1,), ()), held_by, FOUR, LEFTS, ORDER, 3)
        self.told((None, (0, 1), (2, 1)), freed, GAP, LEFTS[:3], (0, 1, 2), 0)
        self.told(((1,), (2,)), held_by, GAP, LEFTS[:3], (0, 1, 2), 0)
        self.told(True, order_matters, FOUR, LEFTS, ORDER, 2)
        self.told(False, order_matters, FOUR, LEFTS, ORDER, 0)
        self.told(((0, 1), None), by_rank, PAIR, ((), (0,)), (0, 1), 1)
        self.told(0, rank_for, PAIR, ((), (2,)), (0, 1), 1, (10 ** 12, 1))
        self.told(((0, 1),), by_rank, FOUR[:1], ((),), (0,), 0)
        self.told((None,), freed, FOUR[:1], ((),), (0,), 0)
        self.told(((), ()), held_by, FOUR[:1], ((),), (0,), 0)

    def test_beside_all_rankings(self):
        picked = random.Random(152)
        held, matters = [], []
        for chart, sides, ranking, comings in some_ranked(152, 60):
            every = books_of_all(chart, sides, comings)
            for name in range(len(chart)):
                call = (chart, sides, ranking, name)
                numbers = tuple([every[raised(ranking, name, rank)][name] for rank in range(len(chart))])
                self.told(numbers, by_rank, *call)
                self.assertEqual([worth(own) for own in numbers], sorted(map(worth, numbers)))
                self.assertEqual(numbers[0], (0, 1))
                for scale in numbers_about(map(worth, numbers))[:4]:
                    rank = max([rank for rank, own in enumerate(numbers) if worth(own) <= scale])
                    self.assertEqual(rank_for(*call, pair(scale)), rank)
                alone = plain_freed(chart, sides, ranking, name, comings)
                self.told(reckoned.book_told(alone), freed, *call)
                book = by_name(every[ranking])
                later = tuple([one for one in range(len(chart)) if one != name and book[one] > alone[one]])
                sooner = tuple([one for one in range(len(chart)) if one != name and book[one] < alone[one]])
                held.append((len(later) > 0, len(sooner) > 0))
                self.told((later, sooner), held_by, *call)
            for rank in range(len(chart) - 1):
                matters.append(every[ranking] != every[exchanged(ranking, rank)])
                self.told(matters[-1], order_matters, chart, sides, ranking, rank)
            scale = picked.choice([own for own in numbers_about([1])])
            self.told(rank_for(chart, sides, ranking, 0, pair(scale)), rank_for, chart, sides, ranking, 0, pair(scale))
        self.assertGreater(min(held.count((True, False)), held.count((False, False))), 10)
        self.assertGreater(min(matters.count(True), matters.count(False)), 10)

    def test_one_kept_out_lets_one_sooner_and_so_another_one_later(self):
        both = 0
        for chart, sides, ranking, comings in some_ranked(153, 80):
            for name in range(len(chart)):
                later, sooner = held_by(chart, sides, ranking, name)
                both += len(sooner) > 0
                self.assertTrue(len(later) > 0 or len(sooner) == 0)
        self.assertGreater(both, 0)

    def test_a_lot_ranked_first_is_shown_from_its_coming_on(self):
        for chart, sides, ranking, comings in some_ranked(154, 40):
            for lot, first in comings.items():
                book = by_name(book_of(chart, sides, ranked_first(ranking, lot)))
                if first != EVER:
                    self.assertTrue(all([book[name] <= first for name in lot]))


class TestOfRankings(Calls):
    def test_as_told(self):
        self.told(ORDER, ranking_for, FOUR, LEFTS, BOOK)
        self.told(True, is_of, FOUR, LEFTS, (2, 0, 3, 1), BOOK)
        self.told(False, is_of, FOUR, LEFTS, (0, 3, 2, 1), BOOK)
        self.told((0, 2, 3), grounded, FOUR, LEFTS, LATE)
        self.told((0, 1, 2, 3), grounded, FOUR, LEFTS, BOOK)
        self.refused(CanNot, {}, ranking_for, FOUR, LEFTS, LATE)
        self.refused(CanNot, {}, ranking_for, FOUR, LEFTS, SOON)
        self.refused(Unfit, {}, grounded, FOUR, LEFTS, SOON)
        self.refused(Unfit, {}, grounded, FOUR, BANNED, LATE)
        # Nobody is: all come later than they could, or never.
        self.told((), grounded, FOUR, LEFTS, ((9, 1),) * 4)
        self.told((), grounded, FOUR, LEFTS, (None,) * 4)
        # One that never comes is, behind the one that keeps it from coming.
        self.told((0, 1), grounded, PAIR, ((), (2,)), ((0, 1), None))
        self.told((1, 0), ranking_for, PAIR, ((), (0,)), (None, (0, 1)))
        self.told((), grounded, PAIR, ((), (2,)), (None, (5, 1)))
        self.told((0,), ranking_for, FOUR[:1], ((),), ((0, 1),))
        self.refused(CanNot, {}, ranking_for, FOUR[:1], ((),), (None,))

    def test_beside_all_rankings(self):
        picked = random.Random(155)
        kinds = []
        for chart, sides, ranking, comings in some_ranked(155, 70):
            every = books_of_all(chart, sides, comings)
            steady = every[ranking]
            for book in (steady, drawn_book(picked, steady, comings), drawn_book(picked, steady, comings)):
                right = [row for row in every if every[row] == book]
                if right:
                    self.told(min(right), ranking_for, chart, sides, book)
                else:
                    self.refused(CanNot, {}, ranking_for, chart, sides, book)
                for row in picked.sample(list(every), min(len(every), 4)):
                    self.told(row in right, is_of, chart, sides, row, book)
                if not reckoned.never_falls(comings, by_name(book)):
                    kinds.append("falls")
                    self.refused(Unfit, {}, grounded, chart, sides, book)
                    continue
                sets = {tuple(sorted(row[:rank])) for row in every for rank in range(len(chart) + 1)
                        if all([every[row][name] == book[name] for name in row[:rank]])}
                best = max(sets, key=len)
                # There is just one greatest set, and all others are within it.
                self.assertTrue(all([{*own} <= {*best} for own in sets]))
                self.told(best, grounded, chart, sides, book)
                self.assertIs(len(best) == len(chart), len(right) > 0)
                kinds.append("some" if right else "none")
        self.assertGreater(min([kinds.count(kind) for kind in ("falls", "some", "none")]), 10)

    def test_sixteen_names(self):
        picked = random.Random(156)
        for _ in range(3):
            chart = sized(drawn_map(picked, 16), 10 ** 3)
            for sides in (by_rule(chart), all_beside(chart), drawn_sides(picked, 16)):
                ranking = drawn_row(picked, 16)
                book = book_of(chart, sides, ranking)
                own = ranking_for(chart, sides, book)
                self.assertIs(is_ranking(chart, own), True)
                self.assertLessEqual(own, ranking)
                self.assertIs(is_of(chart, sides, own, book), True)
                self.assertEqual(grounded(chart, sides, book), tuple(range(16)))
                name = ranking[-1]
                self.assertEqual(by_rank(chart, sides, ranking, name)[-1], book[name])
                # Later than it could: all are grounded but this one.
                if book[name] is not None:
                    late = put(book, name, pair(worth(book[name]) + 1))
                    self.assertIs(keeps(chart, sides, late), True)
                    self.assertEqual(grounded(chart, sides, late), tuple([one for one in range(16) if one != name]))
                    self.assertRaises(CanNot, ranking_for, chart, sides, late)

    def test_what_is_returned_is_passed_in_again(self):
        chart = sized(spread(FOUR, 10 ** 6), 10 ** 12)
        book = book_of(chart, LEFTS, ORDER)
        self.told(ORDER, ranking_for, chart, LEFTS, book)
        self.told(True, is_of, chart, LEFTS, ORDER, book)
        self.assertIs(is_steady(chart, LEFTS, ranking_for(chart, LEFTS, book), book), True)
        self.told(3, rank_for, chart, LEFTS, ORDER, 1, by_rank(chart, LEFTS, ORDER, 1)[3])
        self.assertEqual(coming(chart, LEFTS, (0, 1, 2, 3)), book[1])
