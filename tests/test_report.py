"""Reports [20]: what is told of steady books, beside plain reckonings of them."""

import fractions
import itertools
import random

from glidenames.books import book_of, is_reason, reason
from glidenames.errors import NoPlace
from glidenames.fractions import is_fraction
from glidenames.maps import sized
from glidenames.ranks import raised
from glidenames.report import compared, comings, counts, first_with, is_why, report, share, why
from glidenames.sides import by_rule
from tests import reckoned
from tests.drawn import BESIDE, ROW, STILL, drawn_lot, drawn_map, drawn_row, drawn_sides
from tests.kit import THINGS, Calls, as_lists, mixed, nested, put, unlike
from tests.reckoned import EVER, all_chains, pair, worth
from tests.test_books import by_name, paper_names, some_ranked

BARRED, ORDER, CLASSES = ((), (2,), (0, 0)), (0, 2, 1), (5, 1, 1)
AT_ONCE = (0, 1)
WRONG = (-1, -3, 3, 10 ** 6, -10 ** 6)


def some_told(seed, many, most=4):
    """Quintuples of a MAP, SIDES, a RANKING, CLASSES, and by NAME the number at which it comes."""
    picked = random.Random(seed)
    for chart, sides, ranking, told in some_ranked(seed, many, most):
        classes = tuple([picked.choice((0, 1, 7, 10 ** 6)) for _ in chart])
        yield chart, sides, ranking, classes, reckoned.steady(chart, sides, ranking, told)


class TestComings(Calls):
    def test_as_told(self):
        self.told((((0, 1), (0, 2)), ((2, 3), (1,))), comings, ROW, BESIDE, ORDER)
        self.told((((0, 1), (0, 2)), (None, (1,))), comings, ROW, BARRED, ORDER)
        self.told((((0, 1), (0,)),), comings, ROW[:1], ((),), (0,))
        self.told((((0, 1), (1,)), (None, (0, 2))), comings, ROW, ((), (2,), (0, 2)), (1, 0, 2))

    def test_beside_plain_books(self):
        kinds = []
        for chart, sides, ranking, _, numbers in some_told(241, 50):
            told = tuple([
                (pair(own), tuple([name for name in sorted(numbers) if numbers[name] == own])) for own in sorted({*numbers.values()})
            ])
            self.told(told, comings, chart, sides, ranking)
            # Each NAME once; the highest at 0.
            self.assertEqual(sorted([name for _, names in told for name in names]), [*range(len(chart))])
            self.assertEqual(told[0][0], AT_ONCE)
            self.assertIn(ranking[0], told[0][1])
            kinds.append((len(told), told[-1][0] is None))
        self.assertGreater(len({*kinds}), 5)


class TestCounts(Calls):
    def test_as_told(self):
        self.told(((1, 1, 2), (5, 1, 1)), counts, ROW, BESIDE, ORDER, CLASSES, (1, 2))
        self.told((2, 3), share, ROW, BESIDE, ORDER, (1, 2))
        # At 0 those that come at 0; right at a number at which one comes, and just below.
        for scale, many, part in ((AT_ONCE, 1, (2, 3)), ((2, 3), 2, (1, 1)), ((666666, 10 ** 6), 1, (2, 3)), ((10 ** 12, 1), 2, (1, 1))):
            scale = pair(worth(scale))
            self.told(((1, many, 2), (5, 1, 1)), counts, ROW, BESIDE, ORDER, CLASSES, scale)
            self.told(part, share, ROW, BESIDE, ORDER, scale)
        # CLASSES of which none is shown, and one of all.
        self.told(((0, 0, 1), (3, 2, 2)), counts, ROW, BARRED, ORDER, (3, 0, 3), (9, 1))
        self.told(((10 ** 6, 2, 3),), counts, ROW, BARRED, ORDER, (10 ** 6,) * 3, (9, 1))

    def test_beside_plain_books(self):
        shares = []
        for chart, sides, ranking, classes, numbers in some_told(242, 40):
            before, part = None, fractions.Fraction(0)
            every = [0, *sorted([own + far for own in {*numbers.values()} if own != EVER for far in (0, 1)])]
            for own in sorted({*every}):
                lot = reckoned.shown(numbers, own)
                told = tuple([
                    (one, len([name for name in lot if classes[name] == one]), classes.count(one)) for one in sorted({*classes})
                ])
                self.told(told, counts, chart, sides, ranking, classes, pair(own))
                self.told(pair(fractions.Fraction(len(lot), len(chart))), share, chart, sides, ranking, pair(own))
                self.assertIs(is_fraction(share(chart, sides, ranking, pair(own))), True)
                # With a greater scale no number is less.
                if before is not None:
                    self.assertTrue(all([one[1] <= other[1] for one, other in zip(before, told)]))
                self.assertLessEqual(part, worth(share(chart, sides, ranking, pair(own))))
                before, part = told, worth(share(chart, sides, ranking, pair(own)))
            self.assertIs(part == 1, EVER not in numbers.values())
            shares.append(part == 1)
        self.assertEqual(len({*shares}), 2)


class TestFirstWith(Calls):
    def test_as_told(self):
        for many, told in ((0, AT_ONCE), (1, AT_ONCE), (2, (2, 3)), (3, None), (10 ** 6, None)):
            self.told(told, first_with, ROW, BESIDE, ORDER, (1, 2), many)
        for lot, many, told in (((), 0, AT_ONCE), ((), 1, None), ((1,), 0, AT_ONCE), ((1,), 1, (2, 3)), ((0, 2), 2, AT_ONCE), ((0, 1, 2), 3, (2, 3))):
            self.told(told, first_with, ROW, BESIDE, ORDER, lot, many)
        self.told(None, first_with, ROW, BARRED, ORDER, (1, 2), 2)
        self.told(AT_ONCE, first_with, ROW, BARRED, ORDER, (1, 2), 1)

    def test_beside_plain_books(self):
        picked = random.Random(243)
        for chart, sides, ranking, _, numbers in some_told(243, 50):
            lot = drawn_lot(picked, len(chart))
            row = [0] + sorted([numbers[name] for name in lot]) + [EVER] * 2
            for many in range(len(lot) + 2):
                self.told(pair(row[many] if many else 0), first_with, chart, sides, ranking, lot, many)
            # It falls with no greater many.
            own = [worth(first_with(chart, sides, ranking, lot, many)) for many in range(len(chart) + 2)]
            self.assertEqual(own, sorted(own))


class TestWhy(Calls):
    def test_as_told(self):
        self.told(("late", (0, (0, 1, 2))), why, ROW, BESIDE, ORDER, 1)
        self.told(("never", (0, 1)), why, ROW, BARRED, ORDER, 1)
        for name in (0, 2):
            self.told(("at once",), why, ROW, BESIDE, ORDER, name)
        alike = ((4, 1, STILL, STILL),) * 2
        self.told(("never", (0, (0, 1))), why, alike, BESIDE[:2], (1, 0), 0)
        for name in WRONG:
            self.refused(NoPlace, {"place": name}, why, ROW, BESIDE, ORDER, name)
            for thing in (("at once",), None, nested(100, tuple)):
                self.refused(NoPlace, {"place": name}, is_why, ROW, BESIDE, ORDER, name, thing)

    def test_things(self):
        once, late, never = ("at once",), ("late", (0, (0, 1, 2))), ("never", (0, 1))
        no = [list(once), "at once", ("at once", ()), ("at once", None), ("late",), ("never",), ("At once",), (True,), (None,), once + once, (once,), ()]
        for name in (0, 2):
            self.judged(is_why, [once], no + [late, never, *THINGS], ROW, BESIDE, ORDER, name)
        no = [list(late), as_lists(late), mixed(late), once, ("late",), ("late", ()), ("late", None), ("late", (0, (0, 1))), ("never", late[1]), ("at once", late[1]),
              ("late", (0, [0, 1, 2])), ("late", (False, (0, 1, 2))), late + ((),), late[::-1], (None, late[1]), (("late",), late[1]), never]
        no += [put(late, place, thing) for place in (0, 1) for thing in unlike(THINGS, [])]
        self.judged(is_why, [late], no + list(THINGS), ROW, BESIDE, ORDER, 1)
        no = [once, late, ("never", (1, 0)), ("never", [0, 1]), ("never", (False, 1)), ("late", (0, 1)), ("never",), ("never", (0, (0, 1, 2))), ["never", (0, 1)]]
        self.judged(is_why, [never], no + list(THINGS), ROW, BARRED, ORDER, 1)
        self.judged(is_why, (), [("late", nested(99, tuple)), ("late", (0, nested(98, tuple)))], ROW, BESIDE, ORDER, 1)

    def test_with_whatever_reason(self):
        words = []
        for chart, sides, ranking, _, numbers in some_told(244, 50):
            papers = all_chains(chart, sides, range(len(chart))) + list(itertools.combinations(range(len(chart)), 2))
            for name in range(len(chart)):
                word = "at once" if numbers[name] == 0 else "never" if numbers[name] == EVER else "late"
                own = why(chart, sides, ranking, name)
                self.told(own, why, chart, sides, ranking, name)
                self.assertEqual(own[0], word)
                self.assertEqual(len(own), 1 if word == "at once" else 2)
                if len(own) == 2:
                    self.assertEqual(own[1], reason(chart, sides, ranking, name))
                self.judged(is_why, [own], [as_lists(own)], chart, sides, ranking, name)
                for paper in papers:
                    for there in ("late", "never"):
                        fits = there == word and is_reason(chart, sides, ranking, name, paper)
                        self.assertIs(is_why(chart, sides, ranking, name, (there, paper)), fits)
                    self.assertIs(name in paper_names(paper) or not is_why(chart, sides, ranking, name, (word, paper)), True)
                words.append(word)
        self.assertEqual(len({*words}), 3)


class TestCompared(Calls):
    def test_as_told(self):
        self.told(((1,), (2,), (0,)), compared, ROW, BESIDE, ORDER, (1, 0, 2))
        self.told(((), (), (0, 1, 2)), compared, ROW, BESIDE, ORDER, ORDER)
        self.told(((), (), (0, 1, 2)), compared, ROW, BESIDE, ORDER, (2, 0, 1))
        self.told(((1,), (0,), (2,)), compared, ROW, BARRED, ORDER, (1, 0, 2))
        # Who never comes by either one comes at the same.
        alike = ((4, 1, STILL, STILL),) * 3
        self.told(((), (), (0, 1, 2)), compared, alike, BESIDE, (0, 1, 2), (0, 2, 1))

    def test_alike_up_to_a_place(self):
        picked = random.Random(245)
        for chart, sides, ranking, _, numbers in some_told(245, 60, 5):
            rank = picked.randrange(len(chart) + 1)
            other = ranking[:rank] + tuple(picked.sample(ranking[rank:], len(ranking) - rank))
            there = reckoned.book_told(reckoned.steady(chart, sides, other))
            there = by_name(there)
            told = (
                tuple([name for name in sorted(numbers) if there[name] < numbers[name]]),
                tuple([name for name in sorted(numbers) if there[name] > numbers[name]]),
                tuple([name for name in sorted(numbers) if there[name] == numbers[name]]),
            )
            self.told(told, compared, chart, sides, ranking, other)
            self.assertLessEqual({*ranking[:rank]}, {*told[2]})
            self.same(compared(chart, sides, other, ranking), (told[1], told[0], told[2]))


class TestReport(Calls):
    def test_as_told(self):
        self.told("at 0: 0 2\nat 2/3: 1\nclass 1: 2 of 2\nclass 5: 1 of 1\n", report, ROW, BESIDE, ORDER, CLASSES)
        self.told("at 0: 0 2\nnever: 1\nclass 0: 2 of 3\n", report, ROW, BARRED, ORDER, (0,) * 3)
        self.told("at 0: 0\nclass 1000000: 1 of 1\n", report, ROW[:1], ((),), (0,), (10 ** 6,))
        # A CLASS of which none is ever shown; classes by their numbers, not as words; numbers below 1 as top alone.
        self.told("at 0: 0 2\nnever: 1\nclass 2: 1 of 1\nclass 10: 0 of 1\nclass 11: 1 of 1\n", report, ROW, BARRED, ORDER, (2, 10, 11))
        tight = tuple([(6, 1, (west, 0, west, 0), STILL) for west in (0, 3)])
        self.told("at 0: 1\nat 2: 0\nclass 0: 2 of 2\n", report, tight, BESIDE[:2], (1, 0), (0, 0))

    def test_line_by_line(self):
        for chart, sides, ranking, classes, numbers in some_told(246, 40):
            lines = []
            for own in sorted({*numbers.values()}):
                names = " ".join([str(name) for name in sorted(numbers) if numbers[name] == own])
                lines.append(f"never: {names}\n" if own == EVER else f"at {fractions.Fraction(own)}: {names}\n")
            for one in sorted({*classes}):
                ever = [name for name in numbers if classes[name] == one and numbers[name] < EVER]
                lines.append(f"class {one}: {len(ever)} of {classes.count(one)}\n")
            self.told("".join(lines), report, chart, sides, ranking, classes)


class TestGreat(Calls):
    def test_sixteen_names(self):
        picked = random.Random(247)
        chart = sized(drawn_map(picked, 16), 10 ** 3)
        for sides in (by_rule(chart), drawn_sides(picked, 16)):
            ranking = drawn_row(picked, 16)
            book = book_of(chart, sides, ranking)
            told = comings(chart, sides, ranking)
            self.assertEqual({name: own for own, names in told for name in names}, dict(enumerate(book)))
            for name in range(16):
                self.assertIs(is_why(chart, sides, ranking, name, why(chart, sides, ranking, name)), True)
            other = raised(ranking, ranking[15], 0)
            self.assertEqual(sorted(sum(compared(chart, sides, ranking, other), ())), [*range(16)])
            self.assertEqual(len(report(chart, sides, ranking, tuple(range(16))).splitlines()), len(told) + 16)

    def test_great_numbers_return(self):
        chart = sized(ROW, 10 ** 30)
        self.told((((0, 1), (0, 2)), ((2 * 10 ** 30, 3), (1,))), comings, chart, BESIDE, ORDER)
        self.told((2 * 10 ** 30, 3), first_with, chart, BESIDE, ORDER, (1, 2), 2)
        self.told(f"at 0: 0 2\nat {2 * 10 ** 30}/3: 1\nclass 0: 3 of 3\n", report, chart, BESIDE, ORDER, (0,) * 3)
        for name in (0, 1, 2):
            self.judged(is_why, [why(chart, BESIDE, ORDER, name)], (), chart, BESIDE, ORDER, name)
