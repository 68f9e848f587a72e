"""One judge of all papers: which claims are so, by which papers, and what comes of them."""

from glidenames.claims import is_formed, is_true
from glidenames.errors import Unfit
from glidenames.follows import follows
from glidenames.papers import is_against, is_for, paper_against, paper_for
from glidenames.values import as_tuples


def is_claim(thing):
    """Whether thing is a CLAIM."""
    return is_formed(thing)


def checked(claim):
    """claim with a tuple for each list; Unfit() if it is no CLAIM."""
    claim = as_tuples(claim)
    if not is_formed(claim):
        raise Unfit()
    return claim


def all_checked(claims):
    """The list of claims, each checked."""
    if not isinstance(claims, (list, tuple)):
        raise Unfit()
    return [checked(claim) for claim in claims]


def is_so(claim):
    """Whether claim is so."""
    return is_true(checked(claim))


def paper(claim):
    """A PAPER for claim if it is so, otherwise one against it."""
    claim = checked(claim)
    return paper_for(claim) if is_true(claim) else paper_against(claim)


def is_paper_for(claim, thing):
    """Whether thing is a PAPER for claim."""
    claim = checked(claim)
    return is_true(claim) and is_for(claim, thing)


def is_paper_against(claim, thing):
    """Whether thing is a PAPER against claim."""
    claim = checked(claim)
    return not is_true(claim) and is_against(claim, thing)


def verdict(claim, thing):
    """The word for what thing is to claim."""
    if is_true(claim):
        return "for" if is_for(claim, thing) else "none"
    return "against" if is_against(claim, thing) else "none"


def verdicts(claims, things):
    """For each of claims the word for what the value at its place in things is to it."""
    claims = all_checked(claims)
    if len(claims) != len(things):
        raise Unfit()
    return [verdict(claim, thing) for claim, thing in zip(claims, things)]


def comes_of(claim, claims):
    """Whether claim comes of claims."""
    claim, claims = checked(claim), all_checked(claims)
    word, chart, sides = claim[:3]
    grounds = [(own[0],) + own[3:] for own in claims if own[1] == chart and own[2] == sides]
    return follows(grounds, word, claim[3:])


def first_false(claims):
    """The first place of a CLAIM that is not so, None if all are."""
    for place, claim in enumerate(all_checked(claims)):
        if not is_true(claim):
            return place
    return None
