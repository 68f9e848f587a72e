"""What comes of claims: all that follows by the rules, without another look at the map."""

from glidenames.fractions import is_less


def alikes_of(pairs, ranking):
    """The RANKINGS to which pairs of alike ones, gone either way, lead from ranking, one or more."""
    found = []
    queue = [ranking]
    while len(queue) > 0:
        here = queue.pop(0)
        for one, other in pairs + [(there, own) for own, there in pairs]:
            if one == here and other not in found:
                found.append(other)
                queue.append(other)
    return found


def told_by(grounds, word):
    """What those of grounds with this word tell."""
    return [own[1:] for own in grounds if own[0] == word]


def follows_stands(grounds, lot, scale):
    """Whether some LOT with all of lot can stand at scale or below."""
    return any([
        not is_less(scale, other) and all([name in most for name in lot])
        for most, other in told_by(grounds, "stands")
    ])


def follows_slides(grounds, book, first, last, most):
    """Whether the LEAST SLIDE is told to be most or less."""
    return any([
        own[:3] == (book, first, last) and not is_less(most, own[3]) for own in told_by(grounds, "slides")
    ])


def follows_comes(grounds, rankings, name, number):
    """Whether name is told to come at number by one of rankings."""
    if any([(ranking, name, number) in told_by(grounds, "comes") for ranking in rankings]):
        return True
    return any([
        ranking in rankings and book[name] == number for ranking, book in told_by(grounds, "steady")
    ])


def follows(grounds, word, rest):
    """Whether the CLAIM with word and rest comes of grounds, all behind chart and sides."""
    if (word,) + rest in grounds:
        return True
    if word == "stands":
        return follows_stands(grounds, *rest)
    if word == "slides":
        return follows_slides(grounds, *rest)
    if word == "keeps":
        return any([book == rest[0] for _, book in told_by(grounds, "steady")])
    alikes = alikes_of(told_by(grounds, "alike"), rest[0])
    if word == "alike":
        return rest[1] in alikes
    rankings = [rest[0]] + alikes
    if word == "comes":
        _, name, number = rest
        return follows_comes(grounds, rankings, name, number)
    return any([(ranking, rest[1]) in told_by(grounds, "steady") for ranking in rankings])
