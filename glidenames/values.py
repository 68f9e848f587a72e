"""What values are made of: questions that all is_ functions share.

Each of them takes anything at all, so a part is looked at only behind the
question what it is.
"""

from glidenames.errors import NoPlace


def is_number(thing):
    """Whether thing is a number; True and False are none."""
    return isinstance(thing, int) and not isinstance(thing, bool)


def is_from(thing, low):
    """Whether thing is a number not below low."""
    return is_number(thing) and thing >= low


def is_tuple_of(thing, many):
    """Whether thing is a tuple of so many parts."""
    return isinstance(thing, tuple) and len(thing) == many


def is_numbers(thing, many):
    """Whether thing is a tuple of so many numbers."""
    return is_tuple_of(thing, many) and all([is_number(part) for part in thing])


def is_just(thing, value):
    """Whether thing is value, made of tuples, numbers and None: a list is no tuple, True no number."""
    if isinstance(value, tuple):
        return is_tuple_of(thing, len(value)) and all([
            is_just(part, own) for part, own in zip(thing, value)
        ])
    if value is None:
        return thing is None
    return is_number(thing) and thing == value


def is_set_below(thing, many):
    """Whether thing is a set of numbers from 0, all below many."""
    if not isinstance(thing, tuple) or not all([is_place(part, many) for part in thing]):
        return False
    return all([part < behind for part, behind in zip(thing, thing[1:])])


def as_tuples(value):
    """value with a tuple for each list, at any depth."""
    if isinstance(value, (list, tuple)):
        return tuple([as_tuples(part) for part in value])
    return value


def with_part(row, place, part):
    """row, as a tuple, with part at place."""
    return tuple(row[:place]) + (part,) + tuple(row[place + 1:])


def is_place(thing, many):
    """Whether thing is the number of one of so many, counted from 0."""
    return is_from(thing, 0) and thing < many


def check_place(place, many):
    """Raises NoPlace unless place is the number of one of so many, counted from 0."""
    if not is_place(place, many):
        raise NoPlace(place)
