"""Ranks: rankings, what the rank of a name matters, and the rankings of which a book is."""

from glidenames.books import AT_ONCE, book_first, book_of, keeps, number_after, unlike_at
from glidenames.errors import CanNot, Unfit
from glidenames.needs import is_under
from glidenames.values import as_tuples, check_place, with_part


def by_class(chart, classes):
    """The RANKING by classes, the least first."""
    if len(classes) != len(chart):
        raise Unfit()
    pairs = sorted([(own, name) for name, own in enumerate(classes)])
    return tuple([name for _, name in pairs])


def by_size(chart):
    """The RANKING by width times height, the greatest first."""
    return by_class(chart, [0 - width * height for width, height, across, down in chart])


def rank_of(ranking, name):
    """The rank of name, from 0."""
    check_place(name, len(ranking))
    return list(ranking).index(name)


def without(ranking, name):
    """ranking without name."""
    return tuple([one for one in ranking if one != name])


def raised(ranking, name, rank):
    """ranking with name at rank."""
    check_place(name, len(ranking))
    check_place(rank, len(ranking))
    others = without(ranking, name)
    return others[:rank] + (name,) + others[rank:]


def exchanged(ranking, rank):
    """ranking with those at rank and behind it exchanged."""
    check_place(rank, len(ranking) - 1)
    return raised(ranking, ranking[rank], rank + 1)


def ranked_first(ranking, lot):
    """The NAMES of lot, then the others."""
    return tuple([name for name in ranking if name in lot] + [name for name in ranking if name not in lot])


def by_rank(chart, sides, ranking, name):
    """For each rank the number at which name comes with it."""
    check_place(name, len(chart))
    book = (None,) * len(chart)
    numbers = [AT_ONCE]
    # Lower ones never matter: one rank on, just one more is of higher rank.
    for other in without(ranking, name):
        book = with_part(book, other, number_after(chart, sides, book, other))
        numbers.append(number_after(chart, sides, book, name))
    return tuple(numbers)


def rank_for(chart, sides, ranking, name, scale):
    """The greatest rank at which name comes at scale or below."""
    numbers = by_rank(chart, sides, ranking, name)
    return max([rank for rank, number in enumerate(numbers) if not is_under(scale, number)])


def freed(chart, sides, ranking, name):
    """The BOOK of all others with name kept out."""
    check_place(name, len(chart))
    return book_first(chart, sides, without(ranking, name))


def held_by(chart, sides, ranking, name):
    """The set of those that come later with name than with it kept out, and of those that come sooner."""
    alone = freed(chart, sides, ranking, name)
    book = book_of(chart, sides, ranking)
    others = [one for one in range(len(book)) if one != name]
    return (
        tuple([one for one in others if is_under(alone[one], book[one])]),
        tuple([one for one in others if is_under(book[one], alone[one])]),
    )


def order_matters(chart, sides, ranking, rank):
    """Whether it matters who of those at rank and behind it is the higher one."""
    other = exchanged(ranking, rank)
    return len(unlike_at(book_of(chart, sides, ranking), book_of(chart, sides, other))) > 0


def next_in_row(chart, sides, book, first, left):
    """The least NAME of left that comes as in book behind those that come in first; None if there is none."""
    for name in left:
        if number_after(chart, sides, first, name) == book[name]:
            return name
    return None


def grounded_row(chart, sides, book):
    """A row of all grounded NAMES of book, the least that can be the next one always next."""
    book = as_tuples(book)
    first = (None,) * len(book)
    row, left = [], list(range(len(book)))
    name = next_in_row(chart, sides, book, first, left)
    while name is not None:
        row.append(name)
        left.remove(name)
        first = with_part(first, name, book[name])
        name = next_in_row(chart, sides, book, first, left)
    return tuple(row)


def ranking_for(chart, sides, book):
    """The least RANKING that book is of."""
    # Whoever can be next can be so later, too: so the least row is found one by one.
    row = grounded_row(chart, sides, book)
    if len(row) < len(chart):
        raise CanNot()
    return row


def grounded(chart, sides, book):
    """The set of the grounded NAMES of book."""
    if not keeps(chart, sides, book):
        raise Unfit()
    return tuple(sorted(grounded_row(chart, sides, book)))


def is_of(chart, sides, ranking, book):
    """Whether book is of ranking."""
    return book_of(chart, sides, ranking) == as_tuples(book)
