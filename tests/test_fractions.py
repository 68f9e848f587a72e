"""Fractions [4], held against Python's own."""

import fractions
import itertools
import random

from glidenames.errors import CanNot, Unfit
from glidenames.fractions import (
    fraction, greatest, is_fraction, is_less, is_scale, least, minus, over, plus, straight, times,
)
from tests.kit import NO_NUMBERS, THINGS, Calls, nested

BOUND = 10 ** 12


def pair(value):
    """A number of Python's own as a FRACTION."""
    return (value.numerator, value.denominator)


def worth(own):
    """The number of a FRACTION as Python has it."""
    return fractions.Fraction(*own)


def some_fractions():
    """FRACTIONS small, at the bounds, beyond them, and some between."""
    picked = random.Random(4)
    tops = (0, 1, -1, 2, -3, 6, BOUND, -BOUND, BOUND - 1, 7 ** 40, -(10 ** 60))
    belows = (1, 2, 3, 8, BOUND, BOUND - 1, 11 ** 30)
    values = [fractions.Fraction(top, below) for top in tops for below in belows]
    for _ in range(40):
        top = picked.randrange(-BOUND, BOUND)
        values.append(fractions.Fraction(top, picked.randrange(1, BOUND)))
    return sorted({pair(value) for value in values})


FRACTIONS = some_fractions()
SMALL = sorted({pair(fractions.Fraction(top, below)) for top in range(-5, 6) for below in range(1, 5)})


class TestIsFraction(Calls):
    def test_fractions_and_scales(self):
        self.judged(is_fraction, FRACTIONS + SMALL + [(10 ** 500 + 1, 10 ** 500)], ())
        above = [own for own in FRACTIONS + SMALL if own[0] > 0]
        self.judged(is_scale, above, [own for own in FRACTIONS + SMALL if own[0] <= 0])

    def test_not_in_lowest_terms_or_below_not_from_one(self):
        wrong = [(4, 6), (0, 2), (0, -1), (-4, 6), (3, -2), (-3, -2), (1, 0), (-1, 0), (0, 0), (1, -1),
                 (2 * 10 ** 400, 4), (BOUND, BOUND), (10 ** 500, 10 ** 400)]
        self.judged(is_fraction, (), wrong)
        self.judged(is_scale, (), wrong)

    def test_things_of_every_kind(self):
        # Compared by what is written: (True, 1) equals (1, 1), which is a FRACTION.
        wrong = [thing for thing in THINGS if repr(thing) != "(1, 1)"]
        wrong += [[1, 1], (True, 1), (1, True), (True, True), (False, 1), (0, True), [0, 1], ([0, 1],)]
        wrong += [(1,), (1, 2, 3), ((1, 2),), ((1, 2), 3), (1, (2, 3)), "12", ("1", "2")]
        for own in NO_NUMBERS:
            wrong += [(own, 1), (1, own), (own, own), (1, 2, own)]
        for depth in (2, 50, 99):
            wrong += [(nested(depth, tuple), 1), (1, nested(depth, list))]
        self.judged(is_fraction, (), wrong)
        self.judged(is_scale, (), wrong)


class TestFraction(Calls):
    def test_lowest_terms_below_from_one(self):
        for top, below in itertools.product(range(-12, 13), repeat=2):
            if below != 0:
                self.told(pair(fractions.Fraction(top, below)), fraction, top, below)
        for top, below in ((BOUND, -5), (-BOUND, -BOUND), (6 ** 80, -(4 ** 90)), (0, -BOUND), (0, 10 ** 90)):
            self.told(pair(fractions.Fraction(top, below)), fraction, top, below)

    def test_zero_is_one_pair(self):
        for below in (1, -1, 9, -9, BOUND):
            self.told((0, 1), fraction, 0, below)

    def test_nothing_is_divided_by_zero(self):
        for top in (0, 1, -1, BOUND, 10 ** 60):
            self.refused(Unfit, {}, fraction, top, 0)


class TestSums(Calls):
    def two(self):
        """Pairs of FRACTIONS, of which each stands first and second."""
        picked = random.Random(44)
        return list(itertools.product(SMALL, repeat=2)) + [picked.sample(FRACTIONS, 2) for _ in range(150)]

    def test_what_they_are_of_numbers(self):
        for one, other in self.two():
            self.told(pair(worth(one) + worth(other)), plus, one, other)
            self.told(pair(worth(one) - worth(other)), minus, one, other)
            self.told(pair(worth(one) * worth(other)), times, one, other)
            if other[0] != 0:
                self.told(pair(worth(one) / worth(other)), over, one, other)

    def test_taken_back(self):
        for one, other in self.two():
            self.told(one, minus, plus(one, other), other)
            self.told(one, plus, minus(one, other), other)
            if other[0] != 0:
                self.told(one, over, times(one, other), other)
                self.told(one, times, over(one, other), other)

    def test_over_zero(self):
        for one in ((0, 1), (1, 1), (-2, 3), (BOUND, 1)):
            self.refused(CanNot, {}, over, one, (0, 1))
            if one[0] != 0:
                self.told((0, 1), over, (0, 1), one)

    def test_results_are_fractions_and_passed_in_again(self):
        own, number = (BOUND, BOUND - 1), worth((BOUND, BOUND - 1))
        for _ in range(6):
            own, number = plus(times(own, own), (-1, 7)), number * number - fractions.Fraction(1, 7)
            self.assertIs(is_fraction(own), True)
            self.same(own, pair(number))
        self.same(over(own, own), (1, 1))
        self.same(minus(own, own), (0, 1))


class TestOrder(Calls):
    def test_is_less(self):
        for one, other in itertools.product(SMALL, repeat=2):
            self.told(worth(one) < worth(other), is_less, one, other)
        for one, other in itertools.product(FRACTIONS, repeat=2):
            self.same(is_less(one, other), worth(one) < worth(other))

    def test_hardly_less(self):
        one, other = (BOUND - 1, BOUND), (BOUND - 2, BOUND - 1)
        self.told(True, is_less, other, one)
        self.told(False, is_less, one, other)
        self.told(False, is_less, one, one)

    def test_greatest_and_least(self):
        picked = random.Random(444)
        for many in range(1, 9):
            for _ in range(12):
                own = tuple(picked.choices(SMALL + FRACTIONS, k=many))
                self.told(max(own, key=worth), greatest, own)
                self.told(min(own, key=worth), least, own)

    def test_greatest_and_least_by_number_not_by_pair(self):
        own = ((2, 3), (3, 5), (7, 12))
        self.told((2, 3), greatest, own)
        self.told((7, 12), least, own)
        self.told((-1, 2), greatest, ((-2, 3), (-1, 2), (-1, 1)))
        self.told((-1, 1), least, ((-2, 3), (-1, 2), (-1, 1)))

    def test_one_alone_and_of_none(self):
        for own in ((0, 1), (-7, 2)):
            for function in (greatest, least):
                self.told(own, function, (own,))
                self.told(own, function, (own, own))
                self.refused(CanNot, {}, function, ())


class TestStraight(Calls):
    def test_as_much_as_the_scale_is_far(self):
        picked = random.Random(4444)
        for _ in range(300):
            values = picked.sample(SMALL, 2) + [picked.choice(SMALL + FRACTIONS) for _ in range(3)]
            low, high, scale, first, second = [worth(own) for own in values]
            expected = first + (second - first) * (scale - low) / (high - low)
            self.told(pair(expected), straight, *values)

    def test_at_both_ends_in_the_middle_and_behind(self):
        first, second = (3, 7), (-5, 2)
        for low, high in (((1, 3), (5, 2)), ((5, 2), (1, 3)), ((0, 1), (1, BOUND)), ((-1, 2), (1, 2))):
            self.told(first, straight, low, high, low, first, second)
            self.told(second, straight, low, high, high, first, second)
            middle = over(plus(low, high), (2, 1))
            self.told(over(plus(first, second), (2, 1)), straight, low, high, middle, first, second)
            behind = minus(times((2, 1), high), low)
            self.told(minus(times((2, 1), second), first), straight, low, high, behind, first, second)

    def test_low_as_high(self):
        for low in ((0, 1), (2, 3), (-1, BOUND)):
            for scale in (low, (9, 4)):
                self.refused(CanNot, {}, straight, low, low, scale, (1, 1), (1, 1))
                self.refused(CanNot, {}, straight, low, low, scale, (1, 1), (2, 1))
