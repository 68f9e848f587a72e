"""Changes of a map, its sides or its ranking: what each touches, and through whom."""

from glidenames.books import book_of, has_reason_with
from glidenames.errors import CanNot, NoPlace, Unfit
from glidenames.fractions import least
from glidenames.maps import TETHERS, is_name, is_tether, part_of
from glidenames.needs import is_under
from glidenames.ranks import raised, rank_of, without
from glidenames.sides import BAN, part_sides, side_between, with_side
from glidenames.values import as_tuples, check_place, is_from, is_place, with_part


def is_tether_change(thing):
    """Whether the tuple thing tells a NAME, an axis and a TETHER behind its word."""
    return len(thing) == 4 and is_from(thing[1], 0) and is_place(thing[2], 2) and is_tether(thing[3])


def is_size_change(thing):
    """Whether the tuple thing tells a NAME, a width and a height behind its word."""
    return len(thing) == 4 and is_from(thing[1], 0) and is_from(thing[2], 1) and is_from(thing[3], 1)


def is_side_change(thing):
    """Whether the tuple thing tells two NAMES, the lesser one first, and a SIDE behind its word."""
    return len(thing) == 4 and is_from(thing[2], 0) and is_place(thing[1], thing[2]) and is_place(thing[3], BAN + 1)


def is_rank_change(thing):
    """Whether the tuple thing tells a NAME and a rank behind its word."""
    return len(thing) == 3 and is_from(thing[1], 0) and is_from(thing[2], 0)


def is_less_change(thing):
    """Whether the tuple thing tells a NAME behind its word."""
    return len(thing) == 2 and is_from(thing[1], 0)


def is_more_change(thing):
    """Whether the tuple thing tells a number, a NAME, its SIDES and its rank behind its word."""
    if len(thing) != 5 or not is_from(thing[1], 0) or not is_name(thing[2]) or not is_from(thing[4], 0):
        return False
    row = thing[3]
    return isinstance(row, tuple) and all([is_place(side, BAN + 1) for side in row])


# By the word of a CHANGE: whether what stands behind it is as it must be.
FORMS = {
    "tether": is_tether_change,
    "size": is_size_change,
    "side": is_side_change,
    "rank": is_rank_change,
    "less": is_less_change,
    "more": is_more_change,
}


def is_change(thing):
    """Whether thing is a CHANGE."""
    if not isinstance(thing, tuple) or len(thing) == 0:
        return False
    word = thing[0]
    if not isinstance(word, str) or word not in FORMS:
        return False
    is_formed = FORMS[word]
    return is_formed(thing)


def named_by(change):
    """The NAMES that change names."""
    return tuple(change[1:3]) if change[0] == "side" else (change[1],)


def check_change(chart, change):
    """Raises an error unless change can be made of chart."""
    many = len(chart)
    word = change[0]
    for name in named_by(change):
        check_place(name, many + 1 if word == "more" else many)
    if word == "rank" and change[2] >= many:
        raise Unfit()
    if word == "more" and (change[4] > many or len(change[3]) != many):
        raise Unfit()
    if word == "less" and many == 1:
        raise Unfit()


def number_without(name, gone):
    """The number that name, unlike gone, has once gone is none any more."""
    return name if name < gone else name - 1


def taken_out(chart, sides, ranking, name):
    """All without name."""
    left = without(list(range(len(chart))), name)
    ranks = tuple([number_without(one, name) for one in without(ranking, name)])
    return (part_of(chart, left), part_sides(sides, left), ranks)


def put_in(chart, sides, ranking, change):
    """All with the NAME that change, one of "more", tells."""
    _, name, new, row, rank = change
    # The rows of NAMES ahead stay as they are, those of NAMES behind tell of one more.
    behind = [own[:name] + (row[one],) + own[name:] for one, own in enumerate(sides) if one >= name]
    ranks = tuple([one if one < name else one + 1 for one in ranking])
    return (
        chart[:name] + (new,) + chart[name:],
        sides[:name] + (row[:name],) + tuple(behind),
        ranks[:rank] + (name,) + ranks[rank:],
    )


def name_changed(own, change):
    """The NAME own as change, of its TETHER or its size, has it."""
    if change[0] == "tether":
        return with_part(own, TETHERS + change[2], change[3])
    return change[2:] + own[2:]


def changed(chart, sides, ranking, change):
    """The triple of MAP, SIDES and RANKING behind change."""
    chart, sides, ranking, change = as_tuples((chart, sides, ranking, change))
    check_change(chart, change)
    word, name = change[:2]
    if word == "less":
        return taken_out(chart, sides, ranking, name)
    if word == "more":
        return put_in(chart, sides, ranking, change)
    if word == "side":
        return (chart, with_side(sides, name, change[2], change[3]), ranking)
    if word == "rank":
        return (chart, sides, raised(ranking, name, change[2]))
    return (with_part(chart, name, name_changed(chart[name], change)), sides, ranking)


def back_from(chart, sides, ranking, change):
    """The CHANGE that leads back from what is behind change."""
    chart, sides, ranking, change = as_tuples((chart, sides, ranking, change))
    check_change(chart, change)
    word, name = change[:2]
    if word == "less":
        row = part_sides(sides, without(list(range(len(chart))), name) + (name,))[-1]
        return ("more", name, chart[name], row, rank_of(ranking, name))
    if word == "more":
        return ("less", name)
    if word == "side":
        return ("side", name, change[2], side_between(sides, name, change[2]))
    if word == "rank":
        return ("rank", name, rank_of(ranking, name))
    if word == "tether":
        return ("tether", name, change[2], chart[name][TETHERS + change[2]])
    return ("size", name) + chart[name][:TETHERS]


def all_changed(chart, sides, ranking, changes):
    """The triple behind all changes, one by one."""
    triple = as_tuples((chart, sides, ranking))
    for change in changes:
        triple = changed(*triple, change)
    return triple


class Zoom:
    """A MAP before or behind a CHANGE with its steady BOOK, the NAMES told as in the greater one of both."""

    def __init__(self, chart, sides, ranking, gone):
        self.chart = chart
        self.sides = sides
        self.ranking = ranking
        self.book = book_of(chart, sides, ranking)
        # The NAME that the other MAP alone has, None if there is none.
        self.gone = gone

    def own(self, name):
        """The number that name has in this MAP."""
        return name if self.gone is None else number_without(name, self.gone)

    def comes(self, name):
        """The number at which name comes."""
        return self.book[self.own(name)]

    def has_reason(self, name, other):
        """Whether name has a REASON with other in it."""
        if other == self.gone:
            return False
        return has_reason_with(self.chart, self.sides, self.ranking, self.own(name), self.own(other))

    def is_above(self, name, others):
        """Whether name is of higher rank than the lowest of those of others that are here."""
        ranks = [rank_of(self.ranking, self.own(other)) for other in others if other != self.gone]
        return len(ranks) == 0 or rank_of(self.ranking, self.own(name)) < max(ranks)


def both_zooms(chart, sides, ranking, change):
    """The pair of those before and behind change."""
    chart, sides, ranking, change = as_tuples((chart, sides, ranking, change))
    new = change[1] if change[0] == "more" else None
    old = change[1] if change[0] == "less" else None
    behind = changed(chart, sides, ranking, change)
    return (Zoom(chart, sides, ranking, new), Zoom(*behind, old))


def names_of_both(before, behind):
    """The NAMES of both MAPS."""
    many = max(len(before.book), len(behind.book))
    return [name for name in range(many) if name != before.gone and name != behind.gone]


def sooner_names(before, behind):
    """The set of those of both that come sooner in behind."""
    return tuple([
        name for name in names_of_both(before, behind) if is_under(behind.comes(name), before.comes(name))
    ])


def touched_names(before, behind):
    """The set of those of both that are touched."""
    return tuple([name for name in names_of_both(before, behind) if before.comes(name) != behind.comes(name)])


def touched(chart, sides, ranking, change):
    """The set of those that change touches."""
    before, behind = both_zooms(chart, sides, ranking, change)
    return touched_names(before, behind)


def sooner(chart, sides, ranking, change):
    """The set of those that come sooner behind change."""
    before, behind = both_zooms(chart, sides, ranking, change)
    return sooner_names(before, behind)


def later(chart, sides, ranking, change):
    """The set of those that come later behind change."""
    before, behind = both_zooms(chart, sides, ranking, change)
    return sooner_names(behind, before)


def safe_by_rank(chart, sides, ranking, change):
    """The set of those that change can not touch as they are of higher rank."""
    before, behind = both_zooms(chart, sides, ranking, change)
    names = named_by(change)
    return tuple([
        name for name in names_of_both(before, behind)
        if before.is_above(name, names) and behind.is_above(name, names)
    ])


def first_touched(chart, sides, ranking, change):
    """The least number at which a touched NAME comes, before or behind."""
    before, behind = both_zooms(chart, sides, ranking, change)
    numbers = [own.comes(name) for name in touched_names(before, behind) for own in (before, behind)]
    # Who never comes on one side comes on the other one: only where none is touched there is no number.
    return least([number for number in numbers if number is not None])


def goes_on(before, behind, name, other):
    """Whether other, touched, has a REASON with name in it where it comes later."""
    late = behind if is_under(before.comes(other), behind.comes(other)) else before
    return late.has_reason(other, name)


def causes_from(before, behind, names):
    """By NAME a CAUSE of each touched one, from names on, few NAMES first."""
    found = {name: (name,) for name in names}
    queue = list(names)
    left = touched_names(before, behind)
    while len(queue) > 0:
        ahead = queue.pop(0)
        for name in left:
            if name not in found and goes_on(before, behind, ahead, name):
                found[name] = found[ahead] + (name,)
                queue.append(name)
    return found


def check_of_both(before, behind, name):
    """Raises NoPlace unless name is one of both."""
    if name not in names_of_both(before, behind):
        raise NoPlace(name)


def cause(chart, sides, ranking, change, name):
    """A CAUSE of name."""
    before, behind = both_zooms(chart, sides, ranking, change)
    check_of_both(before, behind, name)
    if name not in touched_names(before, behind):
        raise CanNot()
    # From one touched NAME to the next one, of higher rank, each REASON leads back to one that is named.
    return causes_from(before, behind, named_by(change))[name]


def is_cause(chart, sides, ranking, change, name, thing):
    """Whether thing is a CAUSE of name."""
    before, behind = both_zooms(chart, sides, ranking, change)
    check_of_both(before, behind, name)
    many = max(len(before.book), len(behind.book))
    if not isinstance(thing, tuple) or len(thing) == 0 or not all([is_place(own, many) for own in thing]):
        return False
    if len(set(thing)) < len(thing) or thing[-1] != name or thing[0] not in named_by(change):
        return False
    left = touched_names(before, behind)
    if name not in left or not all([own in left for own in thing[1:]]):
        return False
    return all([goes_on(before, behind, own, other) for own, other in zip(thing, thing[1:])])
