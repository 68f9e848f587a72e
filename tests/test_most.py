"""The most [18]: beside all lots within a lot, all trees of few names, all sides of few names."""

import itertools
import random

from glidenames.books import book_of, shown
from glidenames.errors import CanNot, TooMuch, Unfit
from glidenames.maps import part_of, sized
from glidenames.most import (
    all_most, best_sides, cases, is_best_sides, is_cases, is_most, lag, most_at, row_ends, row_most, steps,
)
from glidenames.ranks import ranked_first
from glidenames.sides import all_beside, bans, by_rule, is_sides
from glidenames.stands import can_stand, coming
from tests import reckoned
from tests.drawn import BESIDE, ROW, STILL, drawn_loose, drawn_lot, drawn_map, drawn_row, drawn_sides, some_loose, some_maps
from tests.kit import THINGS, Calls, as_lists, nested, put, unlike
from tests.reckoned import EVER, all_chains, ends_of, number, pair, worth

TIGHT = tuple([(4, 1, (west, 0, west, 0), STILL) for west in (0, 3, 6)])
KNOT = tuple([(4, 1, (west, 2, west, 2), (0, 0, 1, 0)) for west in (0, 1, 2)])
THREE, ONE, HALF = (0, 1, 2), (1, 1), (1, 2)
LEAVES = ((0, (0, 1, 2)), ((), (), ()))
BARRED = ((), (2,), (0, 2))
# Ten and eleven NAMES at one place, with nothing to spare.
TEN, ELEVEN = (((4, 1, STILL, STILL),) * 10, ((4, 1, STILL, STILL),) * 11)
TEN_SIDES, ELEVEN_SIDES = all_beside(TEN), all_beside(ELEVEN)


def lots_within(lot, many=None):
    """All LOTS within one, of so many NAMES or of however many."""
    sizes = range(len(lot) + 1) if many is None else (many,)
    return [own for size in sizes for own in itertools.combinations(lot, size)]


def some_lots(seed, many, most=5):
    """Quadruples of a MAP, SIDES, a LOT and a SCALE."""
    picked = random.Random(seed)
    scales = ((1, 3), (1, 2), (2, 3), (1, 1), (3, 2), (2, 1), (5, 1), (12, 1))
    for chart, sides, lot in [*some_maps(seed, many, most), *some_loose(seed, many, most)]:
        yield chart, sides, lot, picked.choice(scales)


def papers_of(chart, sides, lot, scale):
    """All blocks of a LOT: CHAINS with a NUMBER above the SCALE, or EVER, and BANS."""
    chains = [chain for chain in all_chains(chart, sides, lot) if number(chart, chain) > worth(scale)]
    return chains + [ban for ban in bans(sides) if {*ban} <= {*lot}]


def some_tree(picked, chart, sides, lot, scale, many):
    """A TREE OF CASES with whatever blocks, None if there is none."""
    if len(lot) <= many:
        return ()
    blocks = papers_of(chart, sides, lot, scale)
    if not blocks:
        return None
    block = picked.choice(blocks)
    names = block[1] if isinstance(block[1], tuple) else block
    trees = [some_tree(picked, chart, sides, tuple([one for one in lot if one != name]), scale, many) for name in names]
    return None if None in trees else (block, tuple(trees))


def bent(picked, tree):
    """A TREE of which something is another thing."""
    if tree == () or picked.randrange(4) == 0:
        return picked.choice((None, [], ((), ()), ((0, (0, 1)), ((), ())), ((0, 1), ((), ())), ((0, (0,)), ((),)), ((0, 1), ()), False))
    block, trees = tree
    at = picked.randrange(len(trees))
    return picked.choice((
        (block, trees[:-1]), (block, trees + ((),)), (block, list(trees)), (as_lists(block), trees), [block, trees], (block, trees, 0), (trees, block),
        (block, put(trees, at, bent(picked, trees[at]))), (block, put(trees, at, bent(picked, trees[at]))), (put(block, 0, True), trees),
    ))


def plain_tree(chart, sides, lot, scale, many, tree):
    """Whether it is a TREE OF CASES, straight from the words."""
    if len(lot) <= many:
        return repr(tree) == "()"
    if not isinstance(tree, tuple) or len(tree) != 2 or not isinstance(tree[1], tuple):
        return False
    block, trees = tree
    if repr(block) not in map(repr, papers_of(chart, sides, lot, scale)):
        return False
    names = block[1] if isinstance(block[1], tuple) else block
    lots = [tuple([one for one in lot if one != name]) for name in names]
    return len(trees) == len(names) and all([plain_tree(chart, sides, own, scale, many, there) for own, there in zip(lots, trees)])


class TestMost(Calls):
    def test_as_told(self):
        self.told([(0, 1), (0, 2), (1, 2)], all_most, ROW, BESIDE, THREE, HALF)
        self.told((0, 2), most_at, TIGHT, BESIDE, THREE, ONE)
        self.told([THREE], all_most, ROW, BESIDE, THREE, (2, 3))
        self.told([()], all_most, ROW, BESIDE, (), ONE)
        self.told((), most_at, ROW, BESIDE, (), ONE)
        self.told([(0,), (1,), (2,)], all_most, ROW, ((), (2,), (2, 2)), THREE, ONE)
        self.told([(0, 2)], all_most, ROW, BARRED[:2] + ((0, 0),), (0, 2), ONE)
        self.told([(0, 1), (0, 2)], all_most, ROW, ((), (0,), (0, 2)), THREE, ONE)

    def test_things(self):
        no = [(0, 1), (1, 2), (0,), (), (0, 1, 2), (2, 0), [0, 2], (0, 0, 2), (0, 2, 2), (False, 2), (0, 2, 3), (0, -1), (0, 3), ((0, 2),), (0, "2"), (0, None)]
        self.judged(is_most, [(0, 2)], no + list(THINGS), TIGHT, BESIDE, THREE, ONE)
        self.judged(is_most, [()], [(0,), [], *unlike(THINGS, [()])], TIGHT, BESIDE, (), ONE)
        self.judged(is_most, [(1,)], [(0,), (True,), (1, 1), [1], (), (0, 1)], TIGHT, BESIDE, (1,), ONE)
        # Of the LOT alone, though another one stands as well.
        self.judged(is_most, [(0, 1), (1, 2)], [(0, 2), (0,), ()], ROW, ((), (0,), (2, 0)), THREE, HALF)
        self.judged(is_most, [(0, 1)], [(1, 2), (0, 2)], ROW, ((), (0,), (2, 0)), (0, 1), HALF)

    def test_beside_all_lots(self):
        sizes = []
        for chart, sides, lot, scale in some_lots(211, 60):
            stand = [own for own in lots_within(lot) if reckoned.coming(chart, sides, own) <= worth(scale)]
            most = max([len(own) for own in stand])
            right = [own for own in stand if len(own) == most]
            self.told(right, all_most, chart, sides, lot, scale)
            self.assertIn(most_at(chart, sides, lot, scale), right)
            self.told(most_at(chart, sides, lot, scale), most_at, chart, sides, lot, scale)
            self.judged(is_most, right[:1], [as_lists(right[-1])], chart, sides, lot, scale)
            for own in lots_within(range(len(chart))):
                self.assertIs(is_most(chart, sides, lot, scale, own), own in right)
            # A RANKING that has it ahead shows it.
            ranking = ranked_first(tuple(range(len(chart))), right[-1])
            self.assertLessEqual({*right[-1]}, {*shown(book_of(chart, sides, ranking), scale)})
            sizes.append((most, most == len(lot)))
        self.assertGreater(len({*sizes}), 7)

    def test_never_falls(self):
        for chart, sides, lot, _ in some_lots(212, 30):
            mosts = [len(most_at(chart, sides, lot, (own, 6))) for own in (1, 2, 3, 4, 6, 9, 12, 40, 10 ** 9)]
            self.assertEqual(mosts, sorted(mosts))

    def test_ten_names(self):
        self.told((), most_at, TEN, TEN_SIDES, (), ONE)
        self.told((0,), most_at, TEN, TEN_SIDES, tuple(range(10)), ONE)
        self.same(len(all_most(TEN, TEN_SIDES, tuple(range(10)), ONE)), 10)
        self.same(most_at(ELEVEN, ELEVEN_SIDES, tuple(range(1, 11)), ONE), (1,))
        picked = random.Random(213)
        for _ in range(3):
            chart, sides = drawn_loose(picked, 12)
            lot = tuple(sorted(picked.sample(range(12), 10)))
            for scale in (HALF, (2, 1)):
                own = most_at(chart, sides, lot, scale)
                self.assertIs(is_most(chart, sides, lot, scale, own), True)
                self.assertTrue(can_stand(chart, sides, own, scale) and {*own} <= {*lot})
                for more in itertools.combinations(lot, len(own) + 1):
                    self.assertFalse(can_stand(chart, sides, more, scale))

    def test_lists_are_new(self):
        one = all_most(ROW, BESIDE, THREE, HALF)
        one.clear()
        self.assertEqual(len(all_most(ROW, BESIDE, THREE, HALF)), 3)


class TestTooMuch(Calls):
    def test_ahead_of_all(self):
        lot = tuple(range(11))
        for function, rest in (
            (most_at, (ONE,)), (is_most, (ONE, (0,))), (all_most, (ONE,)), (cases, (ONE, 1)), (cases, (ONE, -1)), (cases, (ONE, 12)),
            (is_cases, (ONE, 1, ())), (is_cases, (ONE, 99, None)), (steps, ()),
        ):
            self.refused(TooMuch, {}, function, ELEVEN, ELEVEN_SIDES, lot, *rest)
            self.refused(TooMuch, {}, function, ELEVEN, ((), (2,), *ELEVEN_SIDES[2:]), lot, *rest)
        self.refused(TooMuch, {}, lag, ELEVEN, ELEVEN_SIDES, lot, ONE)
        self.told(0, lag, TEN, TEN_SIDES, lot[:10], ONE)
        five = tuple(range(5))
        self.refused(TooMuch, {}, best_sides, TEN, five)
        for thing in (None, (), all_beside(TEN[:5])):
            self.refused(TooMuch, {}, is_best_sides, TEN, five, thing)

    def test_however_many_in_a_row(self):
        lot = tuple(range(11))
        self.told(((4, 1),), row_ends, ELEVEN, ELEVEN_SIDES, 0, lot, ONE)
        self.assertEqual(len(row_most(ELEVEN, ELEVEN_SIDES, 0, lot, ONE)), 1)
        wide = tuple([(4, 1, (4 * own, 0, 4 * own, 0), STILL) for own in range(16)])
        self.told(tuple([(4 * own, 1) for own in range(1, 17)]), row_ends, wide, all_beside(wide), 0, tuple(range(16)), ONE)
        self.told(tuple(range(16)), row_most, wide, all_beside(wide), 0, tuple(range(16)), ONE)


class TestCases(Calls):
    def test_as_told(self):
        self.told(LEAVES, cases, ROW, BESIDE, THREE, HALF, 2)
        self.refused(CanNot, {}, cases, TIGHT, BESIDE, THREE, ONE, 1)
        # As many as the LOT has: nothing to tell; and none, of a LOT of none alone.
        self.told((), cases, ROW, BESIDE, THREE, HALF, 3)
        self.told((), cases, ROW, BESIDE, (), HALF, 0)
        self.refused(CanNot, {}, cases, ROW, BESIDE, (1,), HALF, 0)
        self.refused(CanNot, {}, cases, ROW, BESIDE, THREE, HALF, 0)
        # Through a BAN, and through a CHAIN without a NUMBER.
        self.told(((0, 1), ((), ())), cases, ROW, BARRED, (0, 1), HALF, 1)
        alike = ((4, 1, STILL, STILL),) * 2
        self.told(((0, (0, 1)), ((), ())), cases, alike, BESIDE[:2], (0, 1), (10 ** 12, 1), 1)

    def test_many_that_are_none(self):
        for function, rest in ((cases, ()), (is_cases, ((),)), (is_cases, (None,)), (is_cases, (nested(100, tuple),))):
            for lot, many in ((THREE, -1), (THREE, 4), (THREE, 10 ** 6), ((), 1), ((), -1), ((1,), 2)):
                self.refused(Unfit, {}, function, ROW, BESIDE, lot, HALF, many, *rest)

    def test_things(self):
        block = LEAVES[0]
        no = [(block, ((), ())), (block, ((), (), (), ())), (block, [(), (), ()]), (block, ((), (), [])), [block, ((), (), ())], (list(block), LEAVES[1]),
              ((0, (0, 1)), ((), ())), ((0, (0, 1, 2)), ((), (), None)), ((False, (0, 1, 2)), LEAVES[1]), ((0, (0, True, 2)), LEAVES[1]),
              ((0, (2, 1, 0)), LEAVES[1]), ((1, (0, 1, 2)), LEAVES[1]), ((0, 1), ((), ())), (block,), LEAVES + ((),), (LEAVES,), (LEAVES, ()), (None, ((), (), ())),
              (block, ()), (block, None), (block, 3), (block, (LEAVES, (), ()))]
        self.judged(is_cases, [LEAVES], no + list(THINGS), ROW, BESIDE, THREE, HALF, 2)
        self.judged(is_cases, [()], [LEAVES, *unlike(THINGS, [()])], ROW, BESIDE, THREE, HALF, 3)
        self.judged(is_cases, (), [LEAVES, (), *THINGS], ROW, BESIDE, THREE, (2, 3), 2)
        self.judged(is_cases, (), [LEAVES, (), *THINGS], ROW, BESIDE, THREE, HALF, 1)
        own = ((0, (0, 1)), ((), ()))
        # Whatever NAMES are left, they may be as many.
        self.judged(is_cases, [own, ((0, (1, 2)), ((), ())), ((0, (0, 1, 2)), ((), (), ()))], [((0, (0, 2)), ((), ())), LEAVES + ((),), ((0, (1, 0)), ((), ()))],
                    TIGHT, BESIDE, THREE, ONE, 2)
        # A BAN is told the lesser NAME first.
        ban = ((0, 1), ((), ()))
        self.judged(is_cases, [ban], [((1, 0), ((), ())), ([0, 1], ((), ())), ((0, 2), ((), ())), ((0, True), ((), ()))], ROW, ((), (2,), (0, 0)), (0, 1), HALF, 1)
        for depth in (98, 99):
            self.judged(is_cases, (), [nested(depth, tuple), ((0, (0, 1, 2)), (nested(depth - 1, tuple),) * 3)], ROW, BESIDE, THREE, HALF, 2)

    def test_a_tree_exactly_if_there_are_no_more(self):
        picked = random.Random(214)
        depths = []
        for chart, sides, lot, scale in some_lots(214, 60):
            most = max([len(own) for own in lots_within(lot) if reckoned.coming(chart, sides, own) <= worth(scale)])
            for many in range(len(lot) + 1):
                call = (chart, sides, lot, scale, many)
                if many < most:
                    self.refused(CanNot, {}, cases, *call)
                    self.assertIsNone(some_tree(picked, *call))
                    continue
                own = cases(*call)
                self.told(own, cases, *call)
                self.assertIs(plain_tree(*call, own), True)
                trees = [own, some_tree(picked, *call), some_tree(picked, *call)]
                self.judged(is_cases, trees, [as_lists(own), list(own)], *call)
                for tree in trees:
                    other = bent(picked, tree)
                    self.assertIs(is_cases(*call, other), plain_tree(*call, other))
                depths.append((len(lot) - many, repr(own).count("(0, 1)") > 0))
        self.assertGreater(max(depths)[0], 2)

    def test_ten_names(self):
        lot = tuple(range(10))
        for chart, sides in ((TEN, TEN_SIDES), (TEN, by_rule(TEN))):
            own = cases(chart, sides, lot, ONE, 1)
            self.assertIs(is_cases(chart, sides, lot, ONE, 1, own), True)
            self.assertIs(is_cases(chart, sides, lot, ONE, 2, own), False)
        picked = random.Random(215)
        for _ in range(4):
            chart, sides = drawn_loose(picked, 10)
            for scale in (HALF, ONE):
                many = len(most_at(chart, sides, lot, scale))
                own = cases(chart, sides, lot, scale, many)
                self.assertIs(is_cases(chart, sides, lot, scale, many, own), True)
                self.assertRaises(CanNot, cases, chart, sides, lot, scale, many - 1)


class TestSteps(Calls):
    def test_as_told(self):
        self.told(((0, 1), (0, 1), (0, 1), (2, 3)), steps, ROW, BESIDE, THREE)
        self.told(((0, 1), (0, 1), (2, 3), (4, 3)), steps, TIGHT, BESIDE, THREE)
        self.told(((0, 1), (0, 1), (0, 1), None), steps, ROW, BARRED, THREE)
        self.told(((0, 1), (0, 1), None, None), steps, ROW, ((), (2,), (2, 2)), THREE)
        self.told(((0, 1),), steps, ROW, BESIDE, ())
        self.told(((0, 1), (0, 1)), steps, ROW, BESIDE, (2,))
        self.told(((0, 1),) * 2 + (None,) * 9, steps, TEN, TEN_SIDES, tuple(range(10)))

    def test_beside_all_lots(self):
        for chart, sides, lot, scale in some_lots(216, 50):
            own = steps(chart, sides, lot)
            self.told(tuple([pair(min([reckoned.coming(chart, sides, there) for there in lots_within(lot, many)])) for many in range(len(lot) + 1)]),
                      steps, chart, sides, lot)
            # They never fall; at each SCALE they tell the most.
            numbers = [worth(there) for there in own]
            self.assertEqual(numbers, sorted(numbers))
            self.assertEqual(len([there for there in numbers if there <= worth(scale)]) - 1, len(most_at(chart, sides, lot, scale)))

    def test_ten_names(self):
        picked = random.Random(217)
        chart, sides = drawn_loose(picked, 10)
        own = steps(chart, sides, tuple(range(10)))
        self.assertEqual(len(own), 11)
        self.assertEqual(own[-1], coming(chart, sides, tuple(range(10))))
        for many, step in enumerate(own):
            if step not in (None, (0, 1)):
                self.assertGreaterEqual(len(most_at(chart, sides, tuple(range(10)), step)), many)
                self.assertLess(len(most_at(chart, sides, tuple(range(10)), pair(worth(step) * (10 ** 9 - 1) / 10 ** 9))), many)


class TestLag(Calls):
    def test_as_told(self):
        self.told(1, lag, TIGHT, BESIDE, (1, 0, 2), ONE)
        self.told(0, lag, TIGHT, BESIDE, THREE, ONE)
        self.told(0, lag, ROW[:1], ((),), (0,), ONE)
        # A long one leaves no room for three short ones.
        four = ((18, 1, STILL, STILL),) + tuple([(4, 1, (west, 0, west, 0), STILL) for west in (1, 6, 12)])
        for ranking, told in (((0, 1, 2, 3), 2), ((3, 0, 2, 1), 2), ((3, 1, 2, 0), 0)):
            self.told(told, lag, four, all_beside(four), ranking, ONE)

    def test_some_ranking_shows_the_most(self):
        lags = []
        for chart, sides, _, scale in some_lots(218, 40, 4):
            every = tuple(range(len(chart)))
            most = max([len(own) for own in lots_within(every) if reckoned.coming(chart, sides, own) <= worth(scale)])
            found = []
            for ranking in itertools.permutations(every):
                found.append(most - len(shown(book_of(chart, sides, ranking), scale)))
                self.same(lag(chart, sides, ranking, scale), found[-1])
            self.told(found[-1], lag, chart, sides, ranking, scale)
            self.assertEqual(min(found), 0)
            lags.append(max(found))
        self.assertGreater(max(lags), 0)


class TestRows(Calls):
    def test_as_told(self):
        self.told(((4, 1), (10, 1)), row_ends, TIGHT, BESIDE, 0, THREE, ONE)
        self.told((0, 2), row_most, TIGHT, BESIDE, 0, THREE, ONE)
        # Of one NAME and of none either axis tells.
        for axis, end in ((0, (7, 1)), (1, (1, 1))):
            self.told((end,), row_ends, TIGHT, BESIDE, axis, (1,), ONE)
            self.told((1,), row_most, TIGHT, BESIDE, axis, (1,), ONE)
            self.told((), row_ends, TIGHT, BESIDE, axis, (), ONE)
            self.told((), row_most, TIGHT, BESIDE, axis, (), ONE)
        for function in (row_ends, row_most):
            self.refused(CanNot, {}, function, TIGHT, BESIDE, 1, THREE, ONE)
            self.refused(CanNot, {}, function, TIGHT, ((), (0,), (1, 0)), 0, THREE, ONE)
            self.refused(CanNot, {}, function, TIGHT, ((), (0,), (2, 0)), 0, THREE, ONE)
            self.refused(CanNot, {}, function, TIGHT, ((), (1,), (1, 2)), 1, (1, 2), ONE)
        # Only those of the LOT count, and the order is that in which they lie.
        self.told(((2, 1), (6, 1)), row_ends, ROW[::-1], ((), (0,), (2, 0)), 0, (1, 2), (4, 3))
        self.told(((10, 3), (22, 3)), row_ends, ROW, BESIDE, 0, (1, 2), (4, 9))

    def test_beside_all_lots(self):
        picked = random.Random(219)
        counts = []
        for _ in range(60):
            many, axis = picked.randrange(1, 6), picked.randrange(2)
            chart = drawn_map(picked, many) if picked.randrange(2) else drawn_loose(picked, many)[0]
            sides = drawn_sides(picked, many, (axis,))
            lot, scale = drawn_lot(picked, many), picked.choice((HALF, ONE, (5, 3), (4, 1)))
            order = sorted(lot, key=lambda name: (sum(chart[name][2 + axis][::2]), name))
            ends = {}
            for own in lots_within(order):
                end, stands = None, True
                for name in own:
                    low, high = ends_of(chart[name], axis, worth(scale))
                    place = low if end is None else max(low, end)
                    end, stands = place + chart[name][axis], stands and place <= high
                self.assertIs(stands, reckoned.coming(chart, sides, tuple(sorted(own))) <= worth(scale))
                if stands and own:
                    ends[len(own)] = min(end, ends.get(len(own), EVER))
            self.assertEqual(sorted(ends), [*range(1, len(ends) + 1)])
            self.told(tuple([pair(ends[own]) for own in sorted(ends)]), row_ends, chart, sides, axis, lot, scale)
            if len(lot) < 11:
                self.judged(is_most, [row_most(chart, sides, axis, lot, scale)], (), chart, sides, lot, scale)
            self.told(row_most(chart, sides, axis, lot, scale), row_most, chart, sides, axis, lot, scale)
            counts.append(len(lot) - len(ends))
        self.assertGreater(max(counts), 1)


class TestBestSides(Calls):
    def test_as_told(self):
        no = [by_rule(KNOT), ((), [1], (0, 0)), [(), (1,), (0, 0)], ((), (True,), (0, 0)), ((), (1,), (0, 3)), ((), (1,)), ((), (1,), (0, 2)), (), ((),)]
        self.judged(is_best_sides, [((), (1,), (0, 0)), best_sides(KNOT, THREE)], no + list(THINGS), KNOT, THREE)
        self.told((), best_sides, KNOT, ())
        self.judged(is_best_sides, [()], [((),), [], *unlike(THINGS, [()])], KNOT, ())
        self.told(((),), best_sides, KNOT, (2,))
        self.judged(is_best_sides, [((),)], [(), [()], ((0,),), *THINGS], KNOT, (2,))
        # Where all never come together any SIDES are as good, with a BAN or without.
        alike = ((4, 1, STILL, STILL),) * 2
        self.judged(is_best_sides, [((), (0,)), ((), (1,)), ((), (2,))], [((), (3,)), ((0,), ())], alike, (0, 1))

    def test_beside_all_sides(self):
        picked, sizes = random.Random(220), []
        for chart, _, lot, _ in some_lots(220, 12, 6):
            if len(lot) > 4:
                lot = lot[:4]
            part = part_of(chart, lot) if lot else ()
            every = [()]
            for name in range(len(lot)):
                # With a BAN nobody comes; those of four NAMES are too many to be gone through.
                told = range(3 if len(lot) < 4 else 2)
                every = [own + (row,) for own in every for row in itertools.product(told, repeat=name)]
            comings = {own: reckoned.coming(part, own, range(len(lot))) for own in every}
            best = min(comings.values())
            right = [own for own in every if comings[own] == best]
            own = best_sides(chart, lot)
            self.told(own, best_sides, chart, lot)
            self.assertIn(own, right)
            self.judged(is_best_sides, right[:2], [there for there in every if there not in right][:2], chart, lot)
            for there in picked.sample(every, min(len(every), 20)):
                self.assertIs(is_best_sides(chart, lot, there), there in right)
            if lot:
                self.assertIs(is_sides(part, own), True)
            sizes.append((len(lot), best == 0, best == EVER))
        self.assertIn(4, {many for many, *_ in sizes})

    def test_great_numbers(self):
        chart = sized(KNOT, 10 ** 30)
        self.judged(is_best_sides, [((), (1,), (0, 0)), best_sides(chart, THREE)], [by_rule(chart)], chart, THREE)
        self.told(tuple([None if own is None else pair(worth(own) * 10 ** 30) for own in steps(KNOT, by_rule(KNOT), THREE)]), steps, chart, by_rule(KNOT), THREE)


class TestManyRankings(Calls):
    def test_steady_books_show_no_more_than_can_stand(self):
        picked = random.Random(221)
        for chart, sides, _, scale in some_lots(221, 20, 5):
            self.assertGreaterEqual(lag(chart, sides, drawn_row(picked, len(chart)), scale), 0)
