"""What values are made of: questions that all is_ functions share.

Each of them takes anything at all, so a part is looked at only behind the
question what it is.
"""


def is_number(thing):
    """Whether thing is a number; True and False are none."""
    return isinstance(thing, int) and not isinstance(thing, bool)


def is_from(thing, low):
    """Whether thing is a number not below low."""
    return is_number(thing) and thing >= low


def is_tuple_of(thing, many):
    """Whether thing is a tuple of so many parts."""
    return isinstance(thing, tuple) and len(thing) == many
