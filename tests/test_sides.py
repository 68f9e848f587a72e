"""Sides [8]: what is one, who goes ahead, and the sides by which names come together the soonest."""

import itertools
import random

from glidenames.errors import CanNot, NoPlace, Unfit
from glidenames.maps import part_of, sized, spread
from glidenames.sides import (
    ahead, all_beside, bans, by_rule, in_row, is_row, is_sides, order_of, pair_number, part_sides,
    side_of, stands_above, stands_left, with_side,
)
from tests.drawn import BESIDE, ROW, RULE, STILL, TOWN, drawn_lot, drawn_map, drawn_sides
from tests.kit import NO_NUMBERS, NUMBERS, THINGS, Calls, as_lists, put, unlike
from tests.reckoned import EVER, all_chains, before, coming, number, pair

# All middles alike by axis 0, one after the other from behind by axis 1.
SAME = tuple([(2, 2, (-own, 0, own, 0), (-own, 0, -own, 0)) for own in range(4)])
WRONG = (-1, -4, 4, 5, 10 ** 6, -10 ** 6)


class TestIsSides(Calls):
    def test_sides(self):
        picked = random.Random(81)
        for many in range(1, 17):
            chart, sides = drawn_map(picked, many), drawn_sides(picked, many)
            no = [sides[:-1], sides + ((0,) * many,), sides + ((),), as_lists(sides), list(sides), (sides,)]
            if many > 1:
                no += [sides[1:], sides[::-1], put(sides, many - 1, sides[-1] + (0,)), put(sides, 0, (0,))]
                no += [put(sides, many - 1, sides[-1][1:]), put(sides, many - 1, list(sides[-1])), put(sides, 0, [])]
            self.judged(is_sides, [sides], no, chart)
        self.judged(is_sides, [((),)], [(), [], ([],), ((0,),), [()], ((), ()), ((), (0,))], ROW[:1])

    def test_each_number(self):
        yes = [put(BESIDE, 2, put(BESIDE[2], place, side)) for place in (0, 1) for side in (0, 1, 2)]
        no = [number for number in NUMBERS + (3, 4, -2) if number not in (0, 1, 2)] + list(NO_NUMBERS)
        self.judged(is_sides, yes, [put(BESIDE, 2, put(BESIDE[2], place, side)) for place in (0, 1) for side in no], ROW)
        self.judged(is_sides, (), [((), (True,), (0, 0)), ((), (0,), (False, 0))], ROW)

    def test_things_of_every_kind(self):
        self.judged(is_sides, (), THINGS, ROW)
        self.judged(is_sides, (), THINGS, TOWN)
        self.judged(is_sides, (), unlike([(thing,) for thing in THINGS], [((),)]), ROW[:1])
        for place in range(3):
            # One tuple of the things, (1,), may stand behind NAME 1, and another one, (1, 1), behind NAME 2.
            fits = [(), (1,), (1, 1)][place]
            self.judged(is_sides, [put(BESIDE, place, fits)],
                        [put(BESIDE, place, thing) for thing in unlike(THINGS, [fits])], ROW)


class TestAhead(Calls):
    def test_by_twice_the_middle_then_by_number(self):
        self.told(True, ahead, TOWN, 0, 0, 1)
        self.told(False, ahead, TOWN, 1, 1, 0)
        self.told(False, ahead, TOWN, 0, 3, 2)
        self.told(True, ahead, TOWN, 0, 2, 3)
        for one, other in itertools.permutations(range(4), 2):
            self.told(one < other, ahead, SAME, 0, one, other)
            self.told(one > other, ahead, SAME, 1, one, other)
        # Whoever begins further west goes behind, if its middle is further east.
        wide = ((1, 1, (-5, 0, 9, 0), STILL), (1, 1, (0, 0, 3, 0), STILL))
        self.told(False, ahead, wide, 0, 0, 1)
        self.told(True, ahead, wide, 0, 1, 0)

    def test_what_it_may_spare_does_not_matter(self):
        chart = ((1, 1, (0, 99, 0, -99), STILL), (1, 1, (0, 0, 0, 50), STILL), (9, 9, (-1, -9, 0, 99), STILL))
        self.told((2, 0, 1), order_of, chart, 0)
        self.told((0, 1, 2), order_of, chart, 1)

    def test_orders(self):
        self.told((2, 3, 0, 1), order_of, TOWN, 0)
        self.told((2, 3, 0, 1), order_of, TOWN, 1)
        self.told((0, 1, 2, 3), order_of, SAME, 0)
        self.told((3, 2, 1, 0), order_of, SAME, 1)
        self.told((0,), order_of, ROW[:1], 0)

    def test_nobody_goes_ahead_of_one_told_sooner(self):
        picked = random.Random(82)
        for many in list(range(1, 17)) + [6] * 30:
            chart = drawn_map(picked, many)
            for axis in (0, 1):
                order = order_of(chart, axis)
                self.assertEqual(sorted(order), list(range(many)))
                for one, other in itertools.combinations(order, 2):
                    self.assertIs(ahead(chart, axis, one, other), True)
                    self.assertIs(ahead(chart, axis, other, one), False)


class TestTwo(Calls):
    def test_sides_of_two(self):
        for one, other in itertools.combinations(range(4), 2):
            self.told(RULE[other][one], side_of, RULE, one, other)
            self.told(RULE[other][one], side_of, RULE, other, one)

    def test_who_stands_left_and_above(self):
        self.told(True, stands_left, TOWN, RULE, 2, 1)
        self.told(False, stands_left, TOWN, RULE, 2, 0)
        self.told(True, stands_above, TOWN, RULE, 2, 0)
        picked = random.Random(83)
        for _ in range(40):
            chart, sides = drawn_map(picked, 4), drawn_sides(picked, 4)
            for one, other in itertools.permutations(range(4), 2):
                self.told(before(chart, sides, 0, one, other), stands_left, chart, sides, one, other)
                self.told(before(chart, sides, 1, one, other), stands_above, chart, sides, one, other)

    def test_of_two_names_one_stands_before_the_other_but_for_bans(self):
        picked = random.Random(84)
        for _ in range(40):
            chart, sides = drawn_map(picked, 4), drawn_sides(picked, 4)
            for one, other in itertools.combinations(range(4), 2):
                ways = [stands(chart, sides, *two) for stands in (stands_left, stands_above)
                        for two in ((one, other), (other, one))]
                self.assertEqual(sum(ways), 0 if side_of(sides, one, other) == 2 else 1)

    def test_pair_numbers(self):
        expected = {(0, 1): ((2, 3), (1, 1)), (2, 0): ((3, 7), (1, 3)), (0, 3): ((4, 7), (2, 3)), (2, 3): (None, None)}
        for (one, other), numbers in expected.items():
            for axis in (0, 1):
                self.told(numbers[axis], pair_number, TOWN, axis, one, other)
                self.told(numbers[axis], pair_number, TOWN, axis, other, one)
        self.told((0, 1), pair_number, ROW, 0, 0, 1)
        # A need of just 0 and one below it, each with a way of 0.
        self.told((0, 1), pair_number, ((4, 1, (0, 2, 0, 2), STILL),) * 2, 0, 0, 1)
        self.told((0, 1), pair_number, ((3, 1, (0, 2, 0, 2), STILL),) * 2, 0, 0, 1)
        self.told(None, pair_number, ((5, 1, (0, 2, 0, 2), STILL),) * 2, 0, 0, 1)

    def test_pair_numbers_beside_plain_ones(self):
        picked = random.Random(85)
        for _ in range(60):
            chart, axis = drawn_map(picked, 2), picked.randrange(2)
            sides = ((), (axis,))
            names = (0, 1) if before(chart, sides, axis, 0, 1) else (1, 0)
            for one, other in ((0, 1), (1, 0)):
                self.told(pair(number(chart, (axis, names))), pair_number, chart, axis, one, other)

    def calls_of_two(self):
        """Each function of two NAMES, with what else it is passed."""
        for axis in (0, 1):
            yield lambda one, other, axis=axis: (ahead, TOWN, axis, one, other)
            yield lambda one, other, axis=axis: (pair_number, TOWN, axis, one, other)
        for function in (stands_left, stands_above):
            yield lambda one, other, function=function: (function, TOWN, RULE, one, other)
        yield lambda one, other: (side_of, RULE, one, other)
        for side in (0, 1, 2):
            yield lambda one, other, side=side: (with_side, RULE, one, other, side)

    def test_names_that_are_none_and_one_alone(self):
        for call in self.calls_of_two():
            for name in WRONG:
                self.refused(NoPlace, {"place": name}, *call(name, 0))
                self.refused(NoPlace, {"place": name}, *call(0, name))
                self.refused(NoPlace, {"place": name}, *call(name, name))
                self.refused(NoPlace, {"place": name}, *call(name, 77))
                self.refused(NoPlace, {"place": 77}, *call(77, name))
            for name in range(4):
                self.refused(Unfit, {}, *call(name, name))
        self.refused(NoPlace, {"place": 1}, side_of, ((),), 1, 0)
        self.refused(Unfit, {}, side_of, ((),), 0, 0)


class TestSides(Calls):
    def test_bans(self):
        self.told(((2, 3),), bans, RULE)
        self.told((), bans, BESIDE)
        self.told((), bans, ((),))
        self.told(((0, 1), (0, 2), (0, 3), (1, 2), (1, 3), (2, 3)), bans, ((), (2,), (2, 2), (2, 2, 2)))
        self.told(((0, 3), (1, 2)), bans, ((), (0,), (1, 2), (2, 0, 1)))
        picked = random.Random(86)
        for many in range(1, 17):
            sides = drawn_sides(picked, many)
            two = itertools.combinations(range(many), 2)
            self.told(tuple([own for own in two if sides[own[1]][own[0]] == 2]), bans, sides)

    def test_by_rule(self):
        self.told(RULE, by_rule, TOWN)
        self.told(BESIDE, by_rule, ROW)
        self.told(((),), by_rule, ROW[:1])
        # Equal ones, by NUMBER and both 0; one axis never, then the other; then none.
        self.told(((), (0,)), by_rule, ((2, 2, (0, 0, 3, 0), (0, 0, 3, 0)),) * 2)
        self.told(((), (0,)), by_rule, ((2, 2, (0, 1, 3, 1), (0, 5, 0, 5)),) * 2)
        self.told(((), (1,)), by_rule, ((2, 2, STILL, (0, 0, 3, 0)),) * 2)
        self.told(((), (0,)), by_rule, ((2, 2, (0, 0, 3, 0), STILL),) * 2)
        self.told(((), (2,)), by_rule, ((2, 2, STILL, STILL),) * 2)
        self.told(((), (1,)), by_rule, ((2, 2, (0, 0, 3, 0), (0, 2, 0, 0)),) * 2)

    def test_by_rule_two_come_together_the_soonest(self):
        picked = random.Random(87)
        found = []
        for _ in range(300):
            chart = drawn_map(picked, 2)
            if picked.randrange(2):
                # Two that have hardly a way to go, now and then none at all.
                points = [[(place, 0, place, 0) for place in picked.choices((0, 1), k=2)] for _ in range(2)]
                chart = tuple([(3, 2, *two) for two in points])
            told = by_rule(chart)
            comes = [coming(chart, ((), (side,)), (0, 1)) for side in (0, 1, 2)]
            self.assertIs(is_sides(chart, told), True)
            self.assertEqual(comes[told[1][0]], min(comes))
            self.assertEqual(told[1][0] == 2, min(comes) == EVER)
            found.append(told[1][0])
        self.assertEqual(sorted(set(found)), [0, 1, 2])

    def test_by_rule_each_two_by_themselves(self):
        picked = random.Random(88)
        for many in (1, 2, 3, 5, 16):
            chart = drawn_map(picked, many)
            told = by_rule(chart)
            self.told(told, by_rule, chart)
            for one, other in itertools.combinations(range(many), 2):
                self.assertEqual(told[other][one], by_rule((chart[one], chart[other]))[1][0])
            # All stand just as they do, spread and sized.
            self.same(by_rule(sized(spread(chart, 7), 3)), told)

    def test_all_beside(self):
        for many in (1, 2, 3, 4, 16):
            self.told(tuple([(0,) * name for name in range(many)]), all_beside, drawn_map(random.Random(89), many))

    def test_with_side(self):
        self.told(((), (0,), (1, 0), (0, 0, 0)), with_side, RULE, 3, 2, 0)
        self.told(((), (2,), (1, 0), (0, 0, 2)), with_side, RULE, 0, 1, 2)
        self.told(RULE, with_side, RULE, 2, 0, 1)
        picked = random.Random(90)
        for _ in range(40):
            sides, side = drawn_sides(picked, 5), picked.randrange(3)
            one, other = picked.sample(range(5), 2)
            told = with_side(sides, one, other, side)
            self.assertEqual(side_of(told, one, other), side)
            for two in itertools.combinations(range(5), 2):
                if set(two) != {one, other}:
                    self.assertEqual(side_of(told, *two), side_of(sides, *two))

    def test_with_one_side_exchanged_just_the_chains_with_both_are_others(self):
        picked = random.Random(91)
        for _ in range(60):
            chart, sides, every = drawn_map(picked, 4), drawn_sides(picked, 4), (0, 1, 2, 3)
            one, other = picked.sample(range(4), 2)
            told = with_side(sides, one, other, picked.randrange(3))
            ours, others = set(all_chains(chart, sides, every)), set(all_chains(chart, told, every))
            for axis, names in ours ^ others:
                self.assertIn({one, other}, [set(two) for two in zip(names, names[1:])])
            if told != sides:
                for axis, names in ours & others:
                    self.assertNotIn({one, other}, [set(two) for two in zip(names, names[1:])])

    def test_part_sides(self):
        self.told(((), (0,), (0, 2)), part_sides, RULE, (1, 2, 3))
        self.told(((), (1,), (0, 2)), part_sides, RULE, (0, 2, 3))
        self.told((), part_sides, RULE, ())
        self.told(((),), part_sides, RULE, (2,))
        self.told(RULE, part_sides, RULE, (0, 1, 2, 3))

    def test_part_sides_tell_the_same_of_the_names_alone(self):
        picked = random.Random(92)
        for _ in range(60):
            chart, sides, lot = drawn_map(picked, 6), drawn_sides(picked, 6), drawn_lot(picked, 6)
            if lot:
                part, told = part_of(chart, lot), part_sides(sides, lot)
                self.assertIs(is_sides(part, told), True)
                for one, other in itertools.permutations(range(len(lot)), 2):
                    self.assertEqual(side_of(told, one, other), side_of(sides, lot[one], lot[other]))
                    for stands in (stands_left, stands_above):
                        self.assertIs(stands(part, told, one, other), stands(chart, sides, lot[one], lot[other]))
                chains = [(axis, tuple([lot[own] for own in names]))
                          for axis, names in all_chains(part, told, range(len(lot)))]
                self.assertEqual(sorted(chains), sorted(all_chains(chart, sides, lot)))


class TestRows(Calls):
    def test_rows(self):
        self.told(True, is_row, RULE, 0, (0, 1, 3))
        self.told(False, is_row, RULE, 1, (0, 1, 3))
        self.told(False, is_row, RULE, 0, (0, 1, 2))
        self.told(False, is_row, RULE, 0, (2, 3))
        self.told(True, is_row, RULE, 1, (0, 2))
        self.told((3, 0, 1), in_row, TOWN, RULE, 0, (0, 1, 3))
        self.told((2, 0), in_row, TOWN, RULE, 1, (0, 2))
        self.told((0, 1, 2, 3), in_row, SAME, all_beside(SAME), 0, (0, 1, 2, 3))
        for lot, axis in (((0, 2), 0), ((0, 1, 2), 0), ((0, 1), 1), ((2, 3), 0), ((2, 3), 1), ((0, 1, 2, 3), 0)):
            self.told(False, is_row, RULE, axis, lot)
            self.refused(CanNot, {}, in_row, TOWN, RULE, axis, lot)

    def test_rows_of_one_and_of_none(self):
        for axis in (0, 1):
            self.told(True, is_row, RULE, axis, ())
            self.told((), in_row, TOWN, RULE, axis, ())
            for name in range(4):
                self.told(True, is_row, RULE, axis, (name,))
                self.told((name,), in_row, TOWN, RULE, axis, (name,))

    def test_each_stands_before_all_behind_it(self):
        picked = random.Random(93)
        rows = 0
        for _ in range(150):
            chart, sides, axis = drawn_map(picked, 5), drawn_sides(picked, 5, (0, 0, 0, 0, 1, 2)), picked.randrange(2)
            lot = tuple(sorted(picked.sample(range(5), picked.randrange(2, 5))))
            told = {sides[other][one] for one, other in itertools.combinations(lot, 2)} == {axis}
            self.assertIs(is_row(sides, axis, lot), told)
            if told:
                rows += 1
                row = in_row(chart, sides, axis, lot)
                self.assertEqual(sorted(row), list(lot))
                for one, other in itertools.combinations(row, 2):
                    self.assertTrue(before(chart, sides, axis, one, other))
            else:
                self.assertRaises(CanNot, in_row, chart, sides, axis, lot)
        self.assertGreater(rows, 20)
