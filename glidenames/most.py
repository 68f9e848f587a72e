"""The most: how many names can be shown together, and the tree of cases that lets there be no more."""

from itertools import combinations

from glidenames.books import book_of, shown
from glidenames.errors import CanNot, TooMuch, Unfit
from glidenames.fractions import is_less, plus
from glidenames.maps import stretch_at
from glidenames.needs import is_under
from glidenames.ranks import without
from glidenames.sides import in_row, is_sides
from glidenames.stands import can_stand, coming, is_why_not, why_not
from glidenames.values import is_number, is_set_below, is_tuple_of

MOST_NAMES = 10
MOST_FOR_SIDES = 4


def check_names(names, most):
    """Raises TooMuch if there are more than so many names."""
    if len(names) > most:
        raise TooMuch()


def with_one_more(level, lot):
    """All LOTS of one of level and a NAME of lot behind all of its own, ascending."""
    return [own + (name,) for own in level for name in lot if len(own) == 0 or name > own[-1]]


def levels_of(chart, sides, lot, scale):
    """For each number from 0 to the most the list, ascending, of all LOTS of so many that can stand."""
    levels = []
    level = [()]
    while len(level) > 0:
        levels.append(level)
        # Whoever can stand can do so without one, too.
        level = [own for own in with_one_more(level, lot) if can_stand(chart, sides, own, scale)]
    return levels


def most_of(chart, sides, lot, scale):
    """How many NAMES of lot can stand together."""
    return len(levels_of(chart, sides, lot, scale)) - 1


def all_most(chart, sides, lot, scale):
    """All LOTS within lot of as many NAMES as can stand together."""
    check_names(lot, MOST_NAMES)
    return levels_of(chart, sides, lot, scale)[-1]


def most_at(chart, sides, lot, scale):
    """A LOT within lot of as many NAMES as can stand together."""
    return all_most(chart, sides, lot, scale)[0]


def is_most(chart, sides, lot, scale, thing):
    """Whether thing is a LOT within lot of as many NAMES as can stand together."""
    most = all_most(chart, sides, lot, scale)
    return is_set_below(thing, len(chart)) and thing in most


def check_case(lot, many):
    """Raises an error unless a TREE OF CASES may be asked for of lot and many."""
    check_names(lot, MOST_NAMES)
    if not 0 <= many <= len(lot):
        raise Unfit()


def names_of(block):
    """The NAMES of a CHAIN or a BAN, in its order."""
    return block if is_number(block[1]) else block[1]


def least_blocks(chart, sides, lot, scale):
    """All LOTS within lot that can not stand, but without any one of their NAMES can; few NAMES first."""
    blocks = []
    for level in levels_of(chart, sides, lot, scale):
        for own in with_one_more(level, lot):
            if all([without(own, name) in level for name in own]) and not can_stand(chart, sides, own, scale):
                blocks.append(own)
    return blocks


def is_within(lot, other):
    """Whether all NAMES of lot are in other."""
    return all([name in other for name in lot])


class Cases:
    """TREES OF CASES for the LOTS within one, each made once."""

    def __init__(self, chart, sides, lot, scale, many):
        self.many = many
        self.blocks = [
            (own, why_not(chart, sides, own, scale)) for own in least_blocks(chart, sides, lot, scale)
        ]
        self.trees = {}

    def tree(self, lot):
        """The TREE for lot, none of whose LOTS of more than many NAMES can stand."""
        if len(lot) <= self.many:
            return ()
        if lot not in self.trees:
            block = [own for names, own in self.blocks if is_within(names, lot)][0]
            self.trees[lot] = (block, tuple([self.tree(without(lot, name)) for name in names_of(block)]))
        return self.trees[lot]


def cases(chart, sides, lot, scale, many):
    """A TREE OF CASES for lot."""
    check_case(lot, many)
    if most_of(chart, sides, lot, scale) > many:
        raise CanNot()
    return Cases(chart, sides, lot, scale, many).tree(tuple(lot))


def is_tree(chart, sides, lot, scale, many, thing):
    """Whether thing is a TREE OF CASES for lot."""
    if len(lot) <= many:
        return is_tuple_of(thing, 0)
    if not is_tuple_of(thing, 2) or not is_why_not(chart, sides, lot, scale, thing[0]):
        return False
    block, trees = thing
    names = names_of(block)
    if not is_tuple_of(trees, len(names)):
        return False
    for name, own in zip(names, trees):
        if not is_tree(chart, sides, without(lot, name), scale, many, own):
            return False
    return True


def is_cases(chart, sides, lot, scale, many, thing):
    """Whether thing is a TREE OF CASES for lot."""
    check_case(lot, many)
    return is_tree(chart, sides, lot, scale, many, thing)


def least_number(numbers):
    """The least of numbers, None above all others."""
    best = numbers[0]
    for number in numbers:
        if is_under(number, best):
            best = number
    return best


def steps(chart, sides, lot):
    """For each number of NAMES the least COMING of LOTS of so many within lot."""
    check_names(lot, MOST_NAMES)
    names = list(lot)
    return tuple([
        least_number([coming(chart, sides, own) for own in combinations(names, many)])
        for many in range(len(names) + 1)
    ])


def lag(chart, sides, ranking, scale):
    """How many NAMES less the steady BOOK shows at scale than can stand there."""
    check_names(chart, MOST_NAMES)
    most = most_of(chart, sides, tuple(range(len(chart))), scale)
    return most - len(shown(book_of(chart, sides, ranking), scale))


def with_name(chart, axis, scale, pair, name):
    """The least end, and the LOT, of pair with name behind all of its own; None if it can not stand there."""
    end, lot = pair
    low, high = stretch_at(chart, name, axis, scale)
    place = low if end is None or is_less(end, low) else end
    return None if is_less(high, place) else (plus(place, (chart[name][axis], 1)), lot + (name,))


def tries_with(chart, axis, scale, tries, name):
    """What row_tries tells of the NAMES of tries and of name, that lies behind them all."""
    # The last pair has none next to it to be better than.
    found = tries[:1]
    for pair, kept in zip(tries, tries[1:] + [None]):
        own = with_name(chart, axis, scale, pair, name)
        if kept is None or (own is not None and is_less(own[0], kept[0])):
            kept = own
        if kept is not None:
            found.append(kept)
    return found


def row_tries(chart, sides, axis, lot, scale):
    """The list with, for each number from 0 to the most, the pair of the least end and a LOT that has it."""
    tries = [(None, ())]
    for name in in_row(chart, sides, axis, lot):
        tries = tries_with(chart, axis, scale, tries, name)
    return tries


def row_ends(chart, sides, axis, lot, scale):
    """For each number from 1 to the most the least end of the last one of so many of a row."""
    return tuple([end for end, _ in row_tries(chart, sides, axis, lot, scale)[1:]])


def row_most(chart, sides, axis, lot, scale):
    """A LOT of as many NAMES of a row as can stand together."""
    return tuple(sorted(row_tries(chart, sides, axis, lot, scale)[-1][1]))


def rows_of(many):
    """All rows of so many axes."""
    rows = [()]
    for _ in range(many):
        rows = [row + (side,) for row in rows for side in (0, 1)]
    return rows


def all_sides(many):
    """All SIDES without a BAN of so many NAMES."""
    found = [()]
    for name in range(many):
        found = [sides + (row,) for sides in found for row in rows_of(name)]
    return found


def coming_by(part, sides):
    """The COMING by sides of all NAMES of part, a MAP or ()."""
    return coming(part, sides, tuple(range(len(part))))


def best_of(part):
    """SIDES of part, a MAP or (), with the least COMING."""
    tries = all_sides(len(part))
    best = tries[0]
    # With a BAN there is no COMING at all.
    for sides in tries:
        if is_under(coming_by(part, sides), coming_by(part, best)):
            best = sides
    return best


def best_sides(chart, lot):
    """SIDES of the NAMES of lot alone with the least COMING."""
    check_names(lot, MOST_FOR_SIDES)
    return best_of([chart[name] for name in lot])


def is_best_sides(chart, lot, thing):
    """Whether thing is SIDES of the NAMES of lot alone with the least COMING."""
    check_names(lot, MOST_FOR_SIDES)
    part = [chart[name] for name in lot]
    return is_sides(part, thing) and coming_by(part, thing) == coming_by(part, best_of(part))
