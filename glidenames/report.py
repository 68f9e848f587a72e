"""Reports: when names come by a ranking, how many of which class, and why."""

from glidenames.books import AT_ONCE, arrivals, book_of, comes_at, is_reason, reason, shown
from glidenames.fractions import fraction
from glidenames.needs import is_under
from glidenames.values import is_tuple_of
from glidenames.words import fraction_word, number_word, words_for


def names_coming(book, number):
    """The set of the NAMES that come at number, None for never."""
    return tuple([name for name, own in enumerate(book) if own == number])


def comings(chart, sides, ranking):
    """Pairs of each number at which NAMES come, None for never, and the set of those."""
    book = book_of(chart, sides, ranking)
    pairs = [(number, names_coming(book, number)) for number in (AT_ONCE,) + arrivals(book) + (None,)]
    return tuple([pair for pair in pairs if len(pair[1]) > 0])


def counted(classes, lot):
    """Triples of each number among classes, how many NAMES of it are in lot, and how many there are."""
    told = [classes[name] for name in lot]
    return tuple([(own, told.count(own), list(classes).count(own)) for own in sorted(set(classes))])


def counts(chart, sides, ranking, classes, scale):
    """Of each class how many NAMES are SHOWN at scale, and how many there are."""
    return counted(classes, shown(book_of(chart, sides, ranking), scale))


def share(chart, sides, ranking, scale):
    """How many NAMES are SHOWN at scale, over how many there are."""
    return fraction(len(shown(book_of(chart, sides, ranking), scale)), len(chart))


def first_with(chart, sides, ranking, lot, many):
    """The least number at which many NAMES of lot or more are shown."""
    book = book_of(chart, sides, ranking)
    for number in (AT_ONCE,) + arrivals(book):
        if len([name for name in shown(book, number) if name in lot]) >= many:
            return number
    return None


def word_for(number):
    """The word for when a NAME comes that comes at number."""
    if number == AT_ONCE:
        return "at once"
    return "never" if number is None else "late"


def why(chart, sides, ranking, name):
    """The word for when name comes, and a REASON of it if it does not come at once."""
    number = comes_at(chart, sides, ranking, name)
    if number == AT_ONCE:
        return (word_for(number),)
    return (word_for(number), reason(chart, sides, ranking, name))


def is_why(chart, sides, ranking, name, thing):
    """Whether thing is that word with a REASON if there must be one."""
    number = comes_at(chart, sides, ranking, name)
    if not is_tuple_of(thing, 1 if number == AT_ONCE else 2) or thing[0] != word_for(number):
        return False
    return number == AT_ONCE or is_reason(chart, sides, ranking, name, thing[1])


def compared(chart, sides, ranking, other):
    """The sets of the NAMES that come sooner by other than by ranking, later, and at the same number."""
    pairs = list(enumerate(zip(book_of(chart, sides, ranking), book_of(chart, sides, other))))
    return (
        tuple([name for name, (own, there) in pairs if is_under(there, own)]),
        tuple([name for name, (own, there) in pairs if is_under(own, there)]),
        tuple([name for name, (own, there) in pairs if own == there]),
    )


def coming_line(number, names):
    """The line for those that come at number, None for never."""
    if number is None:
        return "never: " + words_for(names)
    return "at " + fraction_word(number) + ": " + words_for(names)


def class_line(own, many, all_of_it):
    """The line for a class: how many of all are shown."""
    return "class " + number_word(own) + ": " + number_word(many) + " of " + number_word(all_of_it)


def report(chart, sides, ranking, classes):
    """A text that tells comings, and of each class how many are ever shown."""
    pairs = comings(chart, sides, ranking)
    ever = [name for number, names in pairs if number is not None for name in names]
    lines = [coming_line(*pair) for pair in pairs]
    lines.extend([class_line(*triple) for triple in counted(classes, ever)])
    return "".join([line + "\n" for line in lines])
