"""Chains [9]: what is one, and the longest and greatest held against all chains there are."""

import itertools
import random

from glidenames.chains import (
    chain_between, greatest_chain, is_chain, length_of, longest, need_of, number_of, through, way_of,
)
from glidenames.errors import CanNot, NoPlace
from glidenames.fractions import is_fraction
from glidenames.maps import joined, sized, spread
from glidenames.sides import ahead, all_beside, bans, by_rule
from tests import reckoned
from tests.drawn import BESIDE, ROW, RULE, STILL, TOWN, drawn_map, drawn_sides, some_maps
from tests.kit import NO_NUMBERS, NUMBERS, THINGS, Calls, as_lists, mixed, nested, unlike
from tests.reckoned import all_chains, before, chains_by, pair

POLE = ((2, 5, (0, 0, 9, 0), STILL), (2, 5, (0, 0, 9, 0), STILL))
WHOLE = (0, (0, 1, 2))
WRONG = (-1, -3, 10 ** 6, -10 ** 6)


class TestIsChain(Calls):
    def test_chains(self):
        yes = [WHOLE, (0, (0, 1)), (0, (0, 2)), (0, (1, 2)), *[(axis, (name,)) for axis in (0, 1) for name in range(3)]]
        no = [(0, (2, 0)), (0, (1, 0)), (1, (0, 1)), WHOLE + (0,), (0,), (), WHOLE[1], [0, (0, 1)], [0, [0, 1]]]
        no += [(0, ()), (0, []), (0, [0, 1]), (0, (0, 3)), (0, (3,)), (0, (-1,)), (0, (-3, 1)), (0, (0, -1)), (2, (0,))]
        no += [(-1, (0,)), (0, (0, 0)), (0, (0, 1, 0)), (0, (0, 1, 2, 0)), (0, (0, 1) * 500), (0, 0), (0, 1, 2), "01"]
        no += [(False, (0,)), (True, (0,)), (0, (False,)), (0, (0, True)), (0, (True, 2)), ((0, 1), 0), (0, ((0,),))]
        self.judged(is_chain, yes, no + list(THINGS), ROW, BESIDE)

    def test_things_in_the_place_of_each_part(self):
        numbers = [number for number in NUMBERS if number not in (0, 1)]
        # (1,) is the names of a CHAIN of one.
        no = [(0, thing) for thing in unlike(THINGS, [(1,)])]
        no += [(thing, (0, 1)) for thing in [*NO_NUMBERS, *numbers]]
        no += [(0, (thing,)) for thing in [*NO_NUMBERS, *numbers] if thing != 2]
        no += [(0, (0, thing)) for thing in [*NO_NUMBERS, *numbers] if thing != 2]
        self.judged(is_chain, [(0, (1,))], no, ROW, BESIDE)
        self.judged(is_chain, (), [(0, nested(99, tuple)), (nested(99, tuple), (0,)), (0, (0, nested(98, list)))], ROW, BESIDE)

    def test_bans_and_both_axes(self):
        self.judged(is_chain, [(0, (3, 0, 1)), (1, (2, 0)), (0, (2, 1)), (0, (0, 1))],
                    [(0, (2, 3)), (1, (2, 3)), (0, (2, 0)), (1, (0, 1)), (0, (2, 0, 1)), (1, (2, 0, 1)), (0, (1, 2))],
                    TOWN, RULE)

    def test_all_rows_of_names(self):
        for chart, sides, _ in some_maps(91, 25, 4):
            every = range(len(chart))
            chains = all_chains(chart, sides, every)
            rows = [(axis, names) for axis in (0, 1) for many in range(1, len(chart) + 2)
                    for names in itertools.product(every, repeat=many)]
            self.assertEqual([own for own in rows if is_chain(chart, sides, own)], [own for own in rows if own in chains])

    def test_no_name_twice_and_whoever_is_before_goes_ahead(self):
        for chart, sides, lot in some_maps(92, 60):
            for axis, names in all_chains(chart, sides, lot):
                self.assertEqual(len(set(names)), len(names))
                for one, other in itertools.combinations(names, 2):
                    self.assertIs(ahead(chart, axis, one, other), True)


class TestNumbers(Calls):
    def test_as_told(self):
        for chain, length, need, way, number in (
            (WHOLE, 8, 4, 6, (2, 3)), ((0, (0, 1)), 4, 0, 3, (0, 1)), ((0, (1, 2)), 4, 0, 3, (0, 1)),
            ((0, (0, 2)), 4, 0, 6, (0, 1)), ((0, (1,)), 0, -4, 0, (0, 1)), ((1, (2,)), 0, 0, 0, (0, 1)),
        ):
            self.told(length, length_of, ROW, chain)
            self.told(need, need_of, ROW, chain)
            self.told(way, way_of, ROW, chain)
            self.told(number, number_of, ROW, chain)
        self.told(10, length_of, TOWN, (0, (3, 0, 1)))
        self.told(10, need_of, TOWN, (0, (3, 0, 1)))
        self.told(6, way_of, TOWN, (0, (3, 0, 1)))
        self.told((5, 3), number_of, TOWN, (0, (3, 0, 1)))

    def test_ways_that_are_zero(self):
        self.told(None, number_of, POLE, (1, (0, 1)))
        self.told((2, 9), number_of, POLE, (0, (0, 1)))
        # needs above, at and below 0.
        for size, number in ((3, None), (2, (0, 1)), (1, (0, 1))):
            self.told(number, number_of, ((size, 1, (5, 1, 5, 1), STILL),) * 2, (0, (0, 1)))
            self.told(size - 2, need_of, ((size, 1, (5, 1, 5, 1), STILL),) * 2, (0, (0, 1)))
            self.told(0, way_of, ((size, 1, (5, 1, 5, 1), STILL),) * 2, (0, (0, 1)))

    def test_beside_plain_ones(self):
        for chart, sides, lot in some_maps(93, 60, 4):
            for chain in all_chains(chart, sides, lot):
                self.same(length_of(chart, chain), reckoned.length(chart, chain))
                self.same(need_of(chart, chain), reckoned.need(chart, chain))
                self.same(way_of(chart, chain), reckoned.far(chart, chain))
                self.told(pair(reckoned.number(chart, chain)), number_of, chart, chain)
                self.assertGreaterEqual(way_of(chart, chain), 0)

    def test_by_whatever_sides(self):
        # POLE has no such CHAIN by SIDES that tell the other axis.
        self.told((2, 9), number_of, POLE, (0, (0, 1)))
        self.judged(is_chain, (), [(0, (0, 1))], POLE, ((), (1,)))

    def test_one_name_has_zero(self):
        for chart, sides, _ in some_maps(94, 60):
            for axis, name in itertools.product((0, 1), range(len(chart))):
                self.told((0, 1), number_of, chart, (axis, (name,)))

    def test_pieces_and_two_put_together(self):
        for chart, sides, lot in some_maps(95, 60):
            chains = all_chains(chart, sides, lot)
            for axis, names in chains:
                for first, stop in itertools.combinations(range(len(names) + 1), 2):
                    self.assertIs(is_chain(chart, sides, (axis, names[first:stop])), True)
            for (axis, names), (other_axis, others) in itertools.product(chains, repeat=2):
                if axis == other_axis and names[-1] == others[0]:
                    whole = (axis, names + others[1:])
                    self.assertIs(is_chain(chart, sides, whole), True)
                    both = length_of(chart, (axis, names)) + length_of(chart, (axis, others))
                    self.assertEqual(length_of(chart, whole), both)

    def test_a_longest_one_has_the_greatest_number(self):
        for chart, sides, lot in some_maps(96, 100):
            best = {}
            for chain in all_chains(chart, sides, lot):
                ends = (chain[0], chain[1][0], chain[1][-1])
                told = (length_of(chart, chain), reckoned.worth(number_of(chart, chain)))
                best.setdefault(ends, []).append(told)
            for own in best.values():
                self.assertEqual(max(own)[1], max([number for length, number in own]))


class TestLongest(Calls):
    def test_as_told(self):
        self.told(((0, 4, 8), (None, 0, 4), (None, None, 0)), longest, ROW, BESIDE, (0, 1, 2), 0)
        self.told(((0, 4), (None, 0)), longest, ROW, BESIDE, (0, 2), 0)
        self.told(((0, None), (None, 0)), longest, ROW, BESIDE, (0, 2), 1)
        self.told((), longest, ROW, BESIDE, (), 0)
        self.told(((0,),), longest, ROW, BESIDE, (1,), 0)

    def test_beside_all_chains(self):
        for chart, sides, lot in some_maps(97, 80):
            for axis in (0, 1):
                ends = {}
                for names in chains_by(chart, sides, lot, axis):
                    length = reckoned.length(chart, (axis, names))
                    ends[names[0], names[-1]] = max(length, ends.get((names[0], names[-1]), 0))
                table = tuple([tuple([ends.get((one, other)) for other in lot]) for one in lot])
                self.told(table, longest, chart, sides, lot, axis)

    def test_chains_between_beside_all_chains(self):
        for chart, sides, lot in some_maps(98, 50, 4):
            every = range(len(chart))
            for axis, one, other in itertools.product((0, 1), every, every):
                lengths = [reckoned.length(chart, (axis, names)) for names in chains_by(chart, sides, lot, axis)
                           if names[0] == one and names[-1] == other]
                if not lengths:
                    self.refused(CanNot, {}, chain_between, chart, sides, lot, axis, one, other)
                else:
                    chain = chain_between(chart, sides, lot, axis, one, other)
                    self.told(chain, chain_between, chart, sides, lot, axis, one, other)
                    self.judged(is_chain, [chain], (), chart, sides)
                    self.assertEqual((chain[0], chain[1][0], chain[1][-1]), (axis, one, other))
                    self.assertLessEqual(set(chain[1]), set(lot))
                    self.assertEqual(length_of(chart, chain), max(lengths))

    def test_no_chain_between(self):
        self.told((0, (1,)), chain_between, ROW, BESIDE, (0, 1, 2), 0, 1, 1)
        self.told((1, (1,)), chain_between, ROW, BESIDE, (1,), 1, 1, 1)
        self.told((0, (0, 2)), chain_between, ROW, BESIDE, (0, 2), 0, 0, 2)
        for lot, axis, one, other in (
            ((0, 1, 2), 0, 2, 0), ((0, 1, 2), 1, 0, 2), ((0, 1), 0, 0, 2), ((1, 2), 0, 0, 2), ((1, 2), 0, 0, 0), ((), 0, 0, 0),
        ):
            self.refused(CanNot, {}, chain_between, ROW, BESIDE, lot, axis, one, other)

    def test_names_that_are_none_ahead_of_all(self):
        for name in WRONG + (3,):
            kept = {"place": name}
            for lot, axis in itertools.product(((0, 1, 2), (0,), ()), (0, 1)):
                self.refused(NoPlace, kept, chain_between, ROW, BESIDE, lot, axis, name, 0)
                self.refused(NoPlace, kept, chain_between, ROW, BESIDE, lot, axis, 2, name)
                self.refused(NoPlace, kept, chain_between, ROW, BESIDE, lot, axis, name, 77)
                self.refused(NoPlace, {"place": 77}, chain_between, ROW, BESIDE, lot, axis, 77, name)
                self.refused(NoPlace, kept, through, ROW, BESIDE, lot, name)


class TestGreatest(Calls):
    def greatest(self, chart, sides, lot, names):
        """Fails unless through (greatest_chain for None) gives one with the greatest NUMBER."""
        for name in names:
            call = (greatest_chain, chart, sides, lot) if name is None else (through, chart, sides, lot, name)
            chains = [own for own in all_chains(chart, sides, lot) if name is None or name in own[1]]
            chain = call[0](*call[1:])
            self.told(chain, *call)
            self.judged(is_chain, [chain], (), chart, sides)
            self.assertIn(chain, chains)
            self.same(number_of(chart, chain), pair(max([reckoned.number(chart, own) for own in chains])))

    def test_as_told(self):
        self.told(WHOLE, greatest_chain, ROW, BESIDE, (0, 1, 2))
        self.told(WHOLE, through, ROW, BESIDE, (0, 1, 2), 1)
        self.told((1, (0, 1)), greatest_chain, POLE, ((), (1,)), (0, 1))
        self.told((0, (0, 1)), greatest_chain, POLE, ((), (0,)), (0, 1))
        self.refused(CanNot, {}, greatest_chain, ROW, BESIDE, ())

    def test_beside_all_chains(self):
        for chart, sides, lot in some_maps(99, 120):
            if lot:
                self.greatest(chart, sides, lot, (None, *lot))
            for name in range(len(chart)):
                if name not in lot:
                    self.refused(CanNot, {}, through, chart, sides, lot, name)

    def test_no_number_is_above_every_number(self):
        # Of NAMES 1 and 2, one above the other, there is none; of 0 and 3 a great one.
        chart = ((9, 1, (0, 0, 0, 0), STILL), (1, 3, (0, 0, 0, 0), STILL), (1, 3, (0, 0, 0, 0), STILL),
                 (1, 1, (0, 0, 1, 0), STILL))
        sides = ((), (2,), (2, 1), (0, 2, 2))
        every = (0, 1, 2, 3)
        self.told((0, (0, 3)), greatest_chain, chart, sides, (0, 1, 3))
        self.told((1, (1, 2)), greatest_chain, chart, sides, every)
        self.greatest(chart, sides, every, (None, *every))
        self.assertIsNone(number_of(chart, through(chart, sides, every, 1)))
        self.same(number_of(chart, through(chart, sides, every, 3)), (9, 1))

    def test_chains_without_a_number_above_zero(self):
        for axis, name in itertools.product((0, 1), range(3)):
            self.same(number_of(ROW, through(ROW, BESIDE, (name,), name)), (0, 1))
            self.assertEqual(greatest_chain(ROW, BESIDE, (name,))[1], (name,))

    def test_names_out_of_the_lot(self):
        self.refused(CanNot, {}, through, ROW, BESIDE, (0, 2), 1)
        self.refused(CanNot, {}, through, ROW, BESIDE, (), 0)

    def test_sixteen_names(self):
        picked = random.Random(100)
        chart = drawn_map(picked, 16)
        for sides in (by_rule(chart), drawn_sides(picked, 16, (0, 1)), drawn_sides(picked, 16)):
            lot = tuple(range(0, 16, 2)) + (15,)
            self.greatest(chart, sides, lot, (None, 0, 15))
        # All side by side: each tuple of NAMES in their order is a CHAIN, and the longest has all between.
        sides, every = all_beside(chart), tuple(range(16))
        table = longest(chart, sides, every, 0)
        order = sorted(every, key=lambda name: (sum(chart[name][2][::2]), name))
        for one, other in itertools.product(every, repeat=2):
            first, last = order.index(one), order.index(other)
            between = sum([chart[name][0] for name in order[first:last]])
            self.assertEqual(table[one][other], between if first <= last else None)
        number = max([reckoned.number(chart, (0, tuple(order[first:stop])))
                      for first, stop in itertools.combinations(range(17), 2)])
        self.same(number_of(chart, greatest_chain(chart, sides, every)), pair(number))

    def test_what_is_returned_is_passed_in_again(self):
        chart = sized(spread(joined(TOWN, TOWN), 10 ** 6), 10 ** 6)
        sides = by_rule(chart)
        self.assertEqual(len(bans(sides)), len([own for row in sides for own in row if own == 2]))
        chain = greatest_chain(chart, sides, (0, 1, 2, 4, 5))
        self.judged(is_chain, [chain], [as_lists(chain), mixed(chain)], chart, sides)
        number = number_of(chart, chain)
        self.assertTrue(number is None or is_fraction(number))
        self.same(number, pair(max([reckoned.number(chart, own) for own in all_chains(chart, sides, (0, 1, 2, 4, 5))])))
        self.assertTrue(all([before(chart, sides, chain[0], *two) for two in zip(chain[1], chain[1][1:])]))
