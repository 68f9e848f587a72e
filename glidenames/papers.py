"""Papers for and against claims: what shows at once that one is so, or that it is not."""

from glidenames.books import AT_ONCE, book_of, comes_at, fall, is_fall, is_reason, reason, unlike_at
from glidenames.glides import is_glide_within
from glidenames.slides import glide_within, is_ring_above, ring_above
from glidenames.stands import is_standing, is_why_not, standing, why_not
from glidenames.values import is_just, is_place, is_tuple_of


def unlike_names(word, rest):
    """The NAMES at which what rest tells behind word, "steady" or "alike", is unlike."""
    chart, sides, one, other = rest
    told = other if word == "steady" else book_of(chart, sides, other)
    return unlike_at(book_of(chart, sides, one), told)


def paper_for(claim):
    """A PAPER for claim, that is so."""
    word, rest = claim[0], claim[1:]
    if word == "stands":
        return standing(*rest)
    if word == "comes":
        chart, sides, ranking, name, number = rest
        return () if number == AT_ONCE else reason(chart, sides, ranking, name)
    if word == "slides":
        return glide_within(*rest)
    return ()


def paper_against(claim):
    """A PAPER against claim, that is not so."""
    word, rest = claim[0], claim[1:]
    if word == "stands":
        return why_not(*rest)
    if word == "comes":
        chart, sides, ranking, name, _ = rest
        return comes_at(chart, sides, ranking, name)
    if word == "keeps":
        return fall(*rest)
    if word == "slides":
        return ring_above(*rest)
    return unlike_names(word, rest)[0]


def is_for(claim, thing):
    """Whether thing is a PAPER for claim, that is so."""
    word, rest = claim[0], claim[1:]
    if word == "stands":
        return is_standing(*rest, thing)
    if word == "comes":
        chart, sides, ranking, name, number = rest
        return is_tuple_of(thing, 0) if number == AT_ONCE else is_reason(chart, sides, ranking, name, thing)
    if word == "slides":
        return is_glide_within(*rest, thing)
    return is_tuple_of(thing, 0)


def is_against(claim, thing):
    """Whether thing is a PAPER against claim, that is not so."""
    word, rest = claim[0], claim[1:]
    if word == "stands":
        return is_why_not(*rest, thing)
    if word == "comes":
        return is_just(thing, paper_against(claim))
    if word == "keeps":
        return is_fall(*rest, thing)
    if word == "slides":
        return is_ring_above(*rest, thing)
    return is_place(thing, len(rest[0])) and thing in unlike_names(word, rest)
