"""Steady books: the one number at which each name comes, by a ranking, and what kept it from coming sooner."""

from glidenames.chains import ends_through_both, greatest_chain, is_chain, number_of, through
from glidenames.errors import CanNot
from glidenames.fractions import ascending, is_fraction
from glidenames.needs import is_under, number_between
from glidenames.sides import BAN, bans, is_ban, side_between
from glidenames.stands import bans_of
from glidenames.values import as_tuples, check_place, is_just, is_number, is_place, is_tuple_of, with_part

AT_ONCE = (0, 1)


def is_ranking(chart, thing):
    """Whether thing is a RANKING."""
    many = len(chart)
    if not is_tuple_of(thing, many) or not all([is_place(name, many) for name in thing]):
        return False
    return sorted(thing) == list(range(many))


def is_book(chart, thing):
    """Whether thing is a BOOK."""
    if not is_tuple_of(thing, len(chart)):
        return False
    return all([own is None or (is_fraction(own) and own[0] >= 0) for own in thing])


def shown(book, scale):
    """The LOT SHOWN at scale."""
    return tuple([name for name, own in enumerate(book) if not is_under(scale, own)])


def arrivals(book):
    """The ARRIVALS of book."""
    return ascending([own for own in book if own is not None and own[0] > 0])


def lots_shown(book):
    """Pairs of each number at which NAMES come, 0 first, and the LOT SHOWN there."""
    return [(number, shown(book, number)) for number in (AT_ONCE,) + arrivals(book)]


def block_of(chart, sides, book, name):
    """What keeps name from coming at 0 where all others that come in book are of higher rank.

    A BAN if it never comes by one, a CHAIN with the number at which it comes, None if nothing does.
    name itself does not come in book.
    """
    for ban in bans(sides):
        if name in ban and any([one != name and book[one] is not None for one in ban]):
            return ban
    number = None
    for own, lot in reversed(lots_shown(book)):
        # Among fewer NAMES no CHAIN has a greater NUMBER.
        if is_under(own, number):
            chain = through(chart, sides, tuple(sorted(lot + (name,))), name)
            number = number_of(chart, chain)
            if is_under(own, number):
                return chain
    return None


def number_after(chart, sides, book, name):
    """The number at which name comes where all others that come in book are of higher rank."""
    block = block_of(chart, sides, book, name)
    if block is None:
        return AT_ONCE
    return None if is_number(block[1]) else number_of(chart, block)


def book_first(chart, sides, row):
    """The steady BOOK of a RANKING that begins with row, with None for all others."""
    book = (None,) * len(chart)
    for name in row:
        book = with_part(book, name, number_after(chart, sides, book, name))
    return book


def higher(ranking, name):
    """The NAMES of higher rank than name."""
    return tuple(ranking[:list(ranking).index(name)])


def book_of(chart, sides, ranking):
    """The steady BOOK of ranking."""
    return book_first(chart, sides, ranking)


def is_steady(chart, sides, ranking, thing):
    """Whether thing is the steady BOOK of ranking."""
    return is_just(thing, book_of(chart, sides, ranking))


def comes_at(chart, sides, ranking, name):
    """The number at which name comes, None if never."""
    check_place(name, len(chart))
    return number_after(chart, sides, book_first(chart, sides, higher(ranking, name)), name)


def reason(chart, sides, ranking, name):
    """A REASON of name."""
    check_place(name, len(chart))
    block = block_of(chart, sides, book_first(chart, sides, higher(ranking, name)), name)
    if block is None:
        raise CanNot()
    return block


def is_reason(chart, sides, ranking, name, thing):
    """Whether thing is a REASON of name."""
    check_place(name, len(chart))
    book = book_first(chart, sides, higher(ranking, name))
    number = number_after(chart, sides, book, name)
    if number == AT_ONCE:
        return False
    if is_ban(sides, thing):
        return number is None and name in thing and any([book[one] is not None for one in thing])
    if not is_chain(chart, sides, thing) or name not in thing[1] or number_of(chart, thing) != number:
        return False
    # In this BOOK nobody comes but those of higher rank.
    return all([one == name or is_under(book[one], number) for one in thing[1]])


def has_reason_with(chart, sides, ranking, name, other):
    """Whether name, that does not come at 0, has a REASON with other, unlike it, in it."""
    book = book_first(chart, sides, higher(ranking, name))
    number = number_after(chart, sides, book, name)
    if not is_under(book[other], number):
        return False
    if number is None and side_between(sides, name, other) == BAN:
        return True
    lot = tuple([one for one in range(len(chart)) if one == name or is_under(book[one], number)])
    # No CHAIN of this LOT that has name has a greater NUMBER: so longest ones are enough.
    return any([
        number_between(chart, *ends) == number
        for axis in (0, 1) for ends in ends_through_both(chart, sides, lot, axis, name, other)
    ])


def fall_in(chart, sides, book):
    """A FALL of book, None if there is none."""
    for number, lot in lots_shown(book):
        if len(bans_of(sides, lot)) > 0:
            return bans_of(sides, lot)[0]
        if len(lot) > 0:
            chain = greatest_chain(chart, sides, lot)
            if is_under(number, number_of(chart, chain)):
                return chain
    return None


def keeps(chart, sides, book):
    """Whether the LOT SHOWN can stand at each SCALE."""
    return fall_in(chart, sides, book) is None


def fall(chart, sides, book):
    """A FALL of book."""
    found = fall_in(chart, sides, book)
    if found is None:
        raise CanNot()
    return found


def is_fall(chart, sides, book, thing):
    """Whether thing is a FALL of book."""
    if is_ban(sides, thing):
        return all([book[one] is not None for one in thing])
    if not is_chain(chart, sides, thing):
        return False
    return all([is_under(book[one], number_of(chart, thing)) for one in thing[1]])


def unlike_at(one, other):
    """The set of the NAMES at which one and other are unlike."""
    return tuple([
        name for name, (own, there) in enumerate(zip(as_tuples(one), as_tuples(other))) if own != there
    ])


def is_sooner(ranking, one, other):
    """Whether one is sooner by ranking than other."""
    unlike = unlike_at(one, other)
    places = [name for name in ranking if name in unlike]
    return len(places) > 0 and is_under(one[places[0]], other[places[0]])
