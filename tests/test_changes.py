"""Changes [17]: what is behind one and leads back, whom it touches and through whom, beside plain books."""

import itertools
import random

from glidenames.books import is_ranking
from glidenames.changes import (
    all_changed, back_from, cause, changed, first_touched, is_cause, is_change, later, safe_by_rank, sooner, touched,
)
from glidenames.errors import CanNot, NoPlace, Unfit
from glidenames.maps import is_map, sized
from glidenames.sides import by_rule, is_sides
from tests import reckoned
from tests.drawn import BESIDE, ROW, STILL, drawn_change, drawn_map, drawn_row, some_changes
from tests.kit import THINGS, Calls, as_lists, mixed, nested, put, unlike
from tests.reckoned import EVER, all_chains, number, pair

TOLD = (ROW, BESIDE, (0, 2, 1))
SHORT, FAR, HIGH = ("size", 1, 2, 1), ("tether", 2, 0, (9, 2, 9, 2)), ("rank", 1, 0)
LEVEL, LESS = ("side", 0, 2, 1), ("less", 0)
NEW = (4, 1, (9, 2, 9, 2), STILL)
MORE = ("more", 3, NEW, (0, 0, 0), 0)
EACH = (SHORT, FAR, HIGH, LEVEL, LESS, MORE)
# Alike and nothing to spare: one beside the other they never come together.
ALIKE = ((4, 1, STILL, STILL),) * 2
ONE = (ROW[:1], ((),), (0,))


def numbers_of(many, gone):
    """By NAME of the greater MAP its number in the one without gone."""
    left = [name for name in range(many) if name != gone]
    return {name: at for at, name in enumerate(left)}


def halves(told, change):
    """For before and behind a triple, and by NAME of the greater MAP its number there."""
    behind = changed(*told, change)
    many = max(len(told[0]), len(behind[0]))
    new = change[1] if change[0] == "more" else None
    old = change[1] if change[0] == "less" else None
    return (told, numbers_of(many, new)), (behind, numbers_of(many, old))


def plain_books(told, change):
    """Before and behind: by NAME of both MAPS the numbers at which they come."""
    books = []
    for triple, own in halves(told, change):
        book = reckoned.steady(*triple)
        books.append({name: book[own[name]] for name in own})
    both = [name for name in books[0] if name in books[1]]
    return [{name: book[name] for name in both} for book in books]


def reasons_with(triple, own):
    """The set of pairs (name, other): name has a REASON with other in it, told as in the greater MAP."""
    chart, sides, ranking = triple
    book = reckoned.steady(chart, sides, ranking)
    back = {own[name]: name for name in own}
    found = set()
    for rank, name in enumerate(ranking):
        above = ranking[:rank]
        for axis, names in all_chains(chart, sides, above + (name,)):
            worth = number(chart, (axis, names))
            if name in names and worth == book[name] > 0 and all([book[one] < worth for one in names if one != name]):
                found.update([(back[name], back[one]) for one in names])
        for other in above:
            if sides[max(name, other)][min(name, other)] == 2 and book[other] < EVER:
                found.add((back[name], back[other]))
    return found


def plain_causes(told, change):
    """By touched NAME the list of all its CAUSES."""
    before, behind = plain_books(told, change)
    reasons = [reasons_with(*half) for half in halves(told, change)]
    named = change[1:3] if change[0] == "side" else change[1:2]
    left = [name for name in before if before[name] != behind[name]]
    names = sorted({*named, *before})
    causes = {name: [] for name in left}
    for many in range(1, len(names) + 1):
        for row in itertools.permutations(names, many):
            fits = row[0] in named and row[-1] in left and all([name in left for name in row[1:]])
            if fits and all([(other, one) in reasons[behind[other] > before[other]] for one, other in zip(row, row[1:])]):
                causes[row[-1]].append(row)
    return causes


class TestIsChange(Calls):
    def test_each_kind(self):
        far = 10 ** 400
        yes = [
            *EACH, ("tether", 0, 1, (-far, 0, far, 0)), ("tether", far, 0, (0, -3, 0, 3)), ("size", far, 1, far), ("side", 0, 1, 0),
            ("side", 5, far, 2), ("rank", far, far), ("rank", 0, 0), ("less", far), ("more", 0, NEW, (), 0), ("more", far, NEW, (0, 1, 2) * 9, far),
        ]
        no = [
            ("tether", -1, 0, STILL), ("tether", 0, 2, STILL), ("tether", 0, -1, STILL), ("tether", 0, 0, (1, 0, 0, 0)), ("tether", 0, 0, (0, -3, 0, 2)),
            ("tether", 0, 0), ("tether", 0, STILL), ("tether", 0, 0, STILL, 0), ("size", 0, 0, 1), ("size", 0, 1, 0), ("size", -1, 1, 1), ("size", 0, 1),
            ("size", 0, 1, 1, 1), ("side", 1, 1, 0), ("side", 2, 1, 0), ("side", -1, 1, 0), ("side", 0, 1, 3), ("side", 0, 1, -1), ("side", 0, 1),
            ("side", 0, 1, 2, 2), ("rank", -1, 0), ("rank", 0, -1), ("rank", 0), ("rank", 0, 0, 0), ("less", -1), ("less",), ("less", 0, 0),
            ("more", -1, NEW, (), 0), ("more", 0, NEW, (3,), 0), ("more", 0, NEW, (-1,), 0), ("more", 0, NEW, (), -1), ("more", 0, NEW, 0),
            ("more", 0, NEW, (), 0, 0), ("more", 0, NEW[:3], (), 0), ("more", 0, (0, 1, STILL, STILL), (), 0), ("more", 0, NEW, None, 0),
            ("gone", 0), ("", 0), ("LESS", 0), ("less ", 0), (None, 0), (0, 0), (("less",), 0), "less", ("less", (0,)), (("less", 0),),
        ]
        self.judged(is_change, yes, no + list(THINGS))

    def test_things_in_each_place(self):
        no = []
        for change in EACH:
            no += [list(change), as_lists(change), mixed(change), change + (0,), change[:-1]]
            for place in range(len(change)):
                no += [put(change, place, thing) for thing in unlike(THINGS, []) if isinstance(thing, bool) or not isinstance(thing, int)]
        no += [("more", 3, NEW, [0, 0, 0], 0), ("more", 3, NEW, (0, True, 0), 0), ("more", 3, NEW, (0, False, 0), 0), ("more", 3, list(NEW), (0, 0, 0), 0),
               ("tether", 2, 0, [9, 2, 9, 2]), ("tether", 2, 0, (9, 2, 9, True)), ("tether", 2, False, STILL)]
        # A row may be of any length, though.
        yes = [put(MORE, 3, row) for row in ((), (1,), (1, 1), (0,) * 4, (1,) * 9)] + [put(FAR, 3, STILL)]
        self.judged(is_change, yes, [thing for thing in no if repr(thing) not in map(repr, yes)])
        self.judged(is_change, (), [("tether", 0, 0, nested(99, tuple)), ("more", 0, nested(99, tuple), nested(99, list), 0)])


class TestChanged(Calls):
    def test_each_kind(self):
        self.told((put(ROW, 1, (2, 1) + ROW[1][2:]), *TOLD[1:]), changed, *TOLD, SHORT)
        self.told((put(ROW, 2, (4, 1, (9, 2, 9, 2), STILL)), *TOLD[1:]), changed, *TOLD, FAR)
        self.told((put(ROW, 0, (4, 1, ROW[0][2], (7, 8, 9, 0))), *TOLD[1:]), changed, *TOLD, ("tether", 0, 1, (7, 8, 9, 0)))
        self.told((*TOLD[:2], (1, 0, 2)), changed, *TOLD, HIGH)
        self.told((ROW, ((), (0,), (1, 0)), TOLD[2]), changed, *TOLD, LEVEL)
        self.told((ROW[1:], ((), (0,)), (1, 0)), changed, *TOLD, LESS)
        self.told((ROW + (NEW,), ((), (0,), (0, 0), (0, 0, 0)), (3, 0, 2, 1)), changed, *TOLD, MORE)

    def test_numbers_move_on_and_back(self):
        sides = ((), (1,), (2, 0))
        told = (ROW, sides, (2, 0, 1))
        for name, triple in ((0, (ROW[1:], ((), (0,)), (1, 0))), (1, (ROW[::2], ((), (2,)), (1, 0))), (2, (ROW[:2], ((), (1,)), (0, 1)))):
            self.told(triple, changed, *told, ("less", name))
        for name, rows, ranking in (
            (0, ((), (1,), (2, 1), (0, 2, 0)), (3, 1, 0, 2)), (1, ((), (1,), (1, 2), (2, 0, 0)), (3, 0, 1, 2)),
            (2, ((), (1,), (1, 2), (2, 0, 0)), (3, 0, 2, 1)), (3, ((), (1,), (2, 0), (1, 2, 0)), (2, 0, 3, 1)),
        ):
            self.told((ROW[:name] + (NEW,) + ROW[name:], rows, ranking), changed, *told, ("more", name, NEW, (1, 2, 0), 2))
        for rank, ranking in ((0, (0, 3, 1, 2)), (3, (3, 1, 2, 0))):
            self.same(changed(*told, ("more", 0, NEW, (1, 2, 0), rank))[2], ranking)
        for rank, ranking in ((0, (1, 2, 0)), (1, (2, 1, 0)), (2, (2, 0, 1))):
            self.same(changed(*told, ("rank", 1, rank))[2], ranking)

    def test_there_and_back(self):
        kinds = []
        for *told, change in some_changes(201, 90, 5):
            behind = changed(*told, change)
            self.told(behind, changed, *told, change)
            back = back_from(*told, change)
            self.told(back, back_from, *told, change)
            self.judged(is_change, [change, back], [as_lists(back)])
            self.same(changed(*behind, back), tuple(told))
            self.same(back_from(*behind, back), change)
            self.judged(is_map, [behind[0]], ())
            self.judged(is_sides, [behind[1]], (), behind[0])
            self.judged(is_ranking, [behind[2]], (), behind[0])
            kinds.append((change[0], back[0]))
        self.assertEqual({*kinds}, {(word, {"less": "more", "more": "less"}.get(word, word)) for word, _ in kinds})
        self.assertEqual(len({*kinds}), 6)

    def test_what_stays_the_same(self):
        # NAMES keep their sizes, their SIDES and their ranks to one another.
        for *told, change in some_changes(202, 60, 5):
            (chart, sides, ranking), behind = told, changed(*told, change)
            (_, numbers), (_, there) = halves(told, change)
            named = change[1:3] if change[0] == "side" else change[1:2]
            both = [name for name in numbers if name in there and (change[0] == "side" or name not in named)]
            for name in both:
                self.assertEqual(chart[numbers[name]], behind[0][there[name]])
            for one, other in itertools.combinations(both, 2):
                if change[0] != "side" or {one, other} != {*named}:
                    self.assertEqual(sides[numbers[other]][numbers[one]], behind[1][there[other]][there[one]])
                ahead = ranking.index(numbers[one]) < ranking.index(numbers[other])
                self.assertEqual(ahead, behind[2].index(there[one]) < behind[2].index(there[other]))

    def test_one_by_one(self):
        picked = random.Random(203)
        self.told(TOLD, all_changed, *TOLD, ())
        # The last NAME but the new one goes, so the numbers are those behind each one.
        self.told(((NEW,), ((),), (0,)), all_changed, *TOLD, (MORE, ("less", 0), ("less", 0), ("less", 0)))
        self.refused(Unfit, {}, all_changed, *TOLD, (LESS, LESS, LESS))
        self.refused(NoPlace, {"place": 2}, all_changed, *TOLD, (LESS, ("less", 2)))
        self.refused(NoPlace, {"place": 3}, all_changed, *TOLD, (("less", 3), LESS, LESS, LESS))
        for *told, change in some_changes(203, 30):
            triple, changes = tuple(told), []
            for word in picked.choices(("tether", "size", "rank", "more"), k=3):
                changes.append(drawn_change(picked, triple[0], word))
                triple = changed(*triple, changes[-1])
            self.told(triple, all_changed, *told, tuple(changes))

    def test_errors(self):
        calls = [function for function in (changed, back_from, touched, sooner, later, safe_by_rank, first_touched)]
        rest = [(cause, (1,)), (is_cause, (1, (1,))), (is_cause, (9, None)), (cause, (-1,))]
        for function, behind in [(own, ()) for own in calls] + rest:
            # The first number of a NAME that there is none of; "more" has one more.
            for change, place in (
                (("tether", 3, 0, STILL), 3), (("size", 10 ** 6, 1, 1), 10 ** 6), (("rank", 3, 9), 3), (("less", 3), 3), (("side", 2, 3, 0), 3),
                (("side", 4, 5, 0), 4), (("more", 4, NEW, (), 9), 4), (("more", 9, NEW, (0, 0, 0), 0), 9),
            ):
                self.refused(NoPlace, {"place": place}, function, *TOLD, change, *behind)
            for change in (("rank", 2, 3), ("rank", 0, 10 ** 6), ("more", 3, NEW, (0, 0, 0), 4), ("more", 0, NEW, (0, 0), 0), ("more", 0, NEW, (0,) * 4, 0)):
                self.refused(Unfit, {}, function, *TOLD, change, *behind)
            self.refused(Unfit, {}, function, *ONE, LESS, *behind)
            self.refused(NoPlace, {"place": 1}, function, *ONE, ("less", 1), *behind)
        # At the very ends they may be.
        for change in (("rank", 2, 2), ("more", 3, NEW, (0, 0, 0), 3), ("more", 0, NEW, (2, 2, 2), 0), ("side", 1, 2, 2), ("tether", 2, 1, STILL)):
            self.assertEqual(len(changed(*TOLD, change)), 3)
        self.told(((NEW, ROW[0]), ((), (2,)), (1, 0)), changed, *ONE, ("more", 0, NEW, (2,), 1))


class TestTouched(Calls):
    def test_as_told(self):
        for change, told in ((SHORT, (1,)), (FAR, (1,)), (HIGH, (1, 2)), (LESS, (1,)), (MORE, (1, 2))):
            self.told(told, touched, *TOLD, change)
        self.told((1,), sooner, *TOLD, HIGH)
        self.told((2,), later, *TOLD, HIGH)
        # A CHANGE that changes nothing.
        for change in (("size", 1, 4, 1), ("tether", 2, 1, STILL), ("side", 0, 1, 0), ("rank", 0, 0), ("rank", 1, 2)):
            self.told(TOLD, changed, *TOLD, change)
            for function in (touched, sooner, later):
                self.told((), function, *TOLD, change)
            self.refused(CanNot, {}, first_touched, *TOLD, change)
        # With the last NAME but one gone nobody is of both but one.
        self.told((), touched, ROW[:2], BESIDE[:2], (0, 1), LESS)

    def test_never_is_later_than_all(self):
        told, apart = (ALIKE, ((), (2,)), (0, 1)), ("tether", 1, 0, (9, 0, 9, 0))
        self.told((1,), sooner, *told, LESS)
        self.told((), later, *told, LESS)
        self.told((0, 1), first_touched, *told, LESS)
        self.told((), touched, *told, ("side", 0, 1, 1))
        beside = (ALIKE, ((), (0,)), (0, 1))
        self.told((), touched, *beside, ("side", 0, 1, 2))
        self.told((1,), sooner, *beside, apart)
        self.told((4, 9), first_touched, *beside, apart)
        self.told((1,), later, *changed(*beside, apart), back_from(*beside, apart))
        self.told((4, 9), first_touched, *changed(*beside, apart), back_from(*beside, apart))
        # Who never comes before and behind is not touched.
        self.told((), touched, *told, ("size", 1, 9, 9))

    def test_first_touched(self):
        self.told((1, 3), first_touched, *TOLD, SHORT)
        # Before or behind, the lesser one of all.
        self.told((0, 1), first_touched, *TOLD, HIGH)
        self.told((4, 9), first_touched, *TOLD, FAR)

    def test_beside_plain_books(self):
        found, firsts = [], []
        for *told, change in some_changes(204, 120):
            before, behind = plain_books(told, change)
            left = tuple([name for name in before if before[name] != behind[name]])
            soon = tuple([name for name in left if behind[name] < before[name]])
            self.told(left, touched, *told, change)
            self.told(soon, sooner, *told, change)
            self.told(tuple([name for name in left if name not in soon]), later, *told, change)
            # Back the same are touched, sooner for later.
            back = (*changed(*told, change), back_from(*told, change))
            self.same(touched(*back), left)
            self.same(later(*back), soon)
            self.same(sooner(*back), later(*told, change))
            if left:
                firsts.append(min([own[name] for own in (before, behind) for name in left]))
                self.told(pair(firsts[-1]), first_touched, *told, change)
                self.same(first_touched(*back), pair(firsts[-1]))
            else:
                self.refused(CanNot, {}, first_touched, *told, change)
            found.append((change[0], left != ()))
        self.assertEqual(len({*found}), 12)
        self.assertGreater(len([own for own in firsts if own > 0]), 3)

    def test_lists_are_no_part_of_it(self):
        self.assertIsInstance(touched(*TOLD, HIGH), tuple)
        self.assertIsInstance(changed(*as_lists(TOLD), as_lists(MORE))[0][3], tuple)


class TestSafe(Calls):
    def test_as_told(self):
        for change, told in (
            (SHORT, (0, 2)), (FAR, (0,)), (HIGH, ()), (("size", 0, 9, 9), ()), (("rank", 0, 2), ()), (("rank", 1, 1), (0,)), (("rank", 1, 2), (0, 2)),
            # Of two: the lower one, of which the other one may be a higher one.
            (LEVEL, (0,)), (("side", 0, 1, 2), (0, 2)), (("side", 1, 2, 2), (0, 2)),
            # Each RANKING that has it is one alone.
            (LESS, ()), (("less", 1), (0, 2)), (("less", 2), (0,)), (MORE, ()), (("more", 3, NEW, (0, 0, 0), 3), (0, 1, 2)),
            (("more", 0, NEW, (0, 0, 0), 2), (1, 3)), (("more", 1, NEW, (0, 0, 0), 1), (0,)),
        ):
            self.told(told, safe_by_rank, *TOLD, change)

    def test_none_of_them_is_touched(self):
        many = 0
        for *told, change in some_changes(205, 150, 5):
            (triple, own), (behind, there) = halves(told, change)
            named = change[1:3] if change[0] == "side" else change[1:2]
            safe = []
            for name in own:
                above = [
                    ranking.index(numbers[name]) < max([ranking.index(numbers[one]) for one in named])
                    for (_, _, ranking), numbers in ((triple, own), (behind, there)) if named[0] in numbers and name in numbers
                ]
                if name in there and all(above):
                    safe.append(name)
            self.told(tuple(safe), safe_by_rank, *told, change)
            many += len(safe)
            self.assertEqual([name for name in touched(*told, change) if name in safe], [])
        self.assertGreater(many, 100)


class TestCause(Calls):
    def test_as_told(self):
        for change, name, told in ((HIGH, 1, (1,)), (FAR, 1, (2, 1)), (LESS, 1, (0, 1)), (SHORT, 1, (1,))):
            self.told(told, cause, *TOLD, change, name)
        self.judged(is_cause, [(3, 1), (3, 2, 1)], [(2, 1), [3, 1], (1,), (3,), (), (3, 1, 1), (3, 3, 1), (0, 1), (3, 0, 1), (3, 1, 2)], *TOLD, MORE, 1)
        self.judged(is_cause, [(3, 2)], [(3, 1, 2), (2,)], *TOLD, MORE, 2)

    def test_things(self):
        no = [(2, True), (True, 1), (2, 1, 1), (2,), (1,), (1, 2), (2, 0, 1), (0, 1), (-1, 1), (3, 1), [2, 1], (2, [1]), ((2, 1),), (2, (1,)), (2, None), "21", ("2", "1")]
        self.judged(is_cause, [(2, 1)], no + list(THINGS), *TOLD, FAR, 1)
        self.judged(is_cause, [(1,)], [(True,), [1], 1, (1, 1), (2, 1), (0, 1)], *TOLD, SHORT, 1)
        # Of who is not touched there is none.
        for name in (0, 2):
            self.judged(is_cause, (), [(name,), (1, name), (), *THINGS], *TOLD, SHORT, name)
            self.refused(CanNot, {}, cause, *TOLD, SHORT, name)

    def test_none_twice_and_all_touched(self):
        # Before and behind one pushes the other one: back and forth it would go for ever.
        self.judged(is_cause, [(1,)], [(1, 2, 1), (1, 1), (1, 2)], *TOLD, HIGH, 1)
        self.judged(is_cause, [(1, 2)], [(1, 2, 1, 2), (2,), (1, 1, 2), (1, 2, 2)], *TOLD, HIGH, 2)
        # NAME 0 has a REASON with 1 in it, and 2 one with 0; but 0 is not touched.
        told = (((4, 1, (6, 1, 8, -1), (-3, -2, -3, 2)), (2, 2, (1, -1, 1, 1), (3, 3, 3, 1)), (5, 3, (3, 1, 5, 1), (-1, 1, 1, 3))), BESIDE, (1, 0, 2))
        self.judged(is_cause, [(2,), (1, 2)], [(1, 0, 2), (0, 2)], *told, ("side", 1, 2, 1), 2)
        told = (((4, 2, (3, 0, 3, 0), (-1, 3, 4, -3)), (5, 3, (4, -2, 9, 6), (-4, -3, 1, 4)), (1, 3, (3, 1, 5, -1), (-1, -3, 1, 4)), (5, 1, (6, 3, 8, -1), (4, 2, 4, -1))),
                ((), (0,), (1, 0), (1, 1, 0)), (1, 0, 3, 2))
        self.judged(is_cause, [(1, 0, 2)], [(1, 3, 2), (1, 2), (3, 2), (2,)], *told, ("tether", 1, 0, (6, 3, 6, -3)), 2)

    def test_who_is_none_of_both(self):
        for change, names in ((LESS, (0, 3, -1)), (MORE, (3, 4, -1)), (SHORT, (3, -1)), (("more", 0, NEW, (0, 0, 0), 0), (0, 4)), (("less", 2), (2, 3))):
            for name in names:
                self.refused(NoPlace, {"place": name}, cause, *TOLD, change, name)
                for thing in ((name,), None, nested(100, list)):
                    self.refused(NoPlace, {"place": name}, is_cause, *TOLD, change, name, thing)

    def test_beside_all_rows(self):
        lengths, more = [], 0
        for *told, change in some_changes(206, 120):
            causes = plain_causes(told, change)
            before, _ = plain_books(told, change)
            named = change[1:3] if change[0] == "side" else change[1:2]
            names = sorted({*before, *named})
            rows = [row for many in range(1, 4) for row in itertools.permutations(names, many)]
            for name in before:
                right = causes.get(name, [])
                for row in rows:
                    self.assertIs(is_cause(*told, change, name, row), row in right)
                if name in causes:
                    # Each touched NAME has a CAUSE.
                    own = cause(*told, change, name)
                    self.assertIn(own, right)
                    self.told(own, cause, *told, change, name)
                    self.judged(is_cause, [own], [list(own)], *told, change, name)
                    lengths.append(len(own))
                    more += len(right) > 1
                else:
                    self.refused(CanNot, {}, cause, *told, change, name)
        self.assertEqual({*lengths} | {1, 2, 3}, {*lengths})
        self.assertGreater(more, 5)

    def test_sixteen_names(self):
        picked = random.Random(207)
        found = 0
        for _ in range(6):
            chart = sized(drawn_map(picked, 16), 10 ** 3)
            told = (chart, by_rule(chart), drawn_row(picked, 16))
            for word in ("tether", "size", "side", "rank", "less", "more"):
                change = drawn_change(picked, chart, word)
                for name in touched(*told, change):
                    own = cause(*told, change, name)
                    self.assertIs(is_cause(*told, change, name, own), True)
                    found += 1
        self.assertGreater(found, 20)
