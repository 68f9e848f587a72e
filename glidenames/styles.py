"""Styles: how a text is broken into lines, how large it is, where it may stand."""

from glidenames.values import is_from, is_number, is_tuple_of

# The places of the parts of a STYLE.
LETTER = 0
WIDTHS = 1
GAP = 2
HEIGHT = 3
LEAD = 4
LONGEST = 5
HOLD = 6
SLACK = 7
WEIGHT = 8

# By each hold: how a box is tied across and how down.
TIES = {
    "middle": ("middle", "middle"),
    "free": ("free", "free"),
    "left": ("before", "middle"),
    "right": ("behind", "middle"),
    "over": ("middle", "before"),
    "under": ("middle", "behind"),
}


def is_sign(thing):
    """Whether thing is a string of one sign from the blank to the tilde."""
    return isinstance(thing, str) and len(thing) == 1 and " " <= thing <= "~"


def is_sign_width(thing):
    """Whether thing is a pair of a sign and its width."""
    return is_tuple_of(thing, 2) and is_sign(thing[0]) and is_from(thing[1], 1)


def is_widths(thing):
    """Whether thing is a set of pairs of a sign and its width, no sign twice."""
    if not isinstance(thing, tuple) or not all([is_sign_width(pair) for pair in thing]):
        return False
    signs = [pair[0] for pair in thing]
    return signs == sorted(set(signs))


def is_hold(thing):
    """Whether thing is one of the words for how a box is held."""
    return isinstance(thing, str) and thing in TIES


def is_style(thing):
    """Whether thing is a STYLE."""
    if not is_tuple_of(thing, 9):
        return False
    letter, widths, gap, height, lead, longest, hold, slack, weight = thing
    above = all([is_from(number, 1) for number in (letter, height, longest)])
    others = all([is_from(number, 0) for number in (gap, lead, slack)])
    return above and others and is_number(weight) and is_widths(widths) and is_hold(hold)


def is_styles(thing):
    """Whether thing is STYLES."""
    return isinstance(thing, tuple) and len(thing) > 0 and all([is_style(own) for own in thing])


def width_of(style, line):
    """The width of line."""
    if line == "":
        return 0
    widths = {sign: width for sign, width in style[WIDTHS]}
    signs = sum([widths.get(sign, style[LETTER]) for sign in line])
    return signs + style[GAP] * (len(line) - 1)


def words_of(text):
    """The longest runs of text without a blank."""
    return [word for word in text.split(" ") if word]


def line_widths(style, words):
    """For each word the widths of the lines of 1, 2, .. words that begin with it."""
    many = len(words)
    return [
        [width_of(style, " ".join(words[start:stop])) for stop in range(start + 1, many + 1)]
        for start in range(many)
    ]


def filled(table, most):
    """How many words each line has if each in turn takes all that are at most so wide.

    A line takes one word however wide it is. A part of a line is never wider
    than the line, so there is no BREAK of fewer lines, and none whose first
    line, or of equal ones whose next line, has more words.
    """
    counts = []
    start = 0
    while start < len(table):
        many = 1
        while many < len(table[start]) and table[start][many] <= most:
            many += 1
        counts.append(many)
        start += many
    return counts


def break_widths(table):
    """All widths, ascending, that a BREAK may have: no BREAK is less wide than a word."""
    widest_word = max([widths[0] for widths in table])
    return sorted({width for widths in table for width in widths if width >= widest_word})


def ladder(style, text):
    """For each number of lines the least width of a BREAK of so many."""
    table = line_widths(style, words_of(text))
    if len(table) == 0:
        return (0,)
    # A BREAK of fewer lines, broken further, gets no wider.
    tries = [(len(filled(table, most)), most) for most in break_widths(table)]
    return tuple([
        min([width for lines, width in tries if lines <= many])
        for many in range(1, len(table) + 1)
    ])


def best_counts(table, longest):
    """How many words each line of the best BREAK that fits has."""
    fewest = len(filled(table, longest))
    tries = [min(width, longest) for width in break_widths(table)]
    return filled(table, min([most for most in tries if len(filled(table, most)) == fewest]))


def lines_of(style, text):
    """The best of the BREAKS that fit: few lines, then not wide, then long lines first."""
    words = words_of(text)
    if len(words) == 0:
        return ("",)
    lines = []
    start = 0
    for many in best_counts(line_widths(style, words), style[LONGEST]):
        lines.append(" ".join(words[start:start + many]))
        start += many
    return tuple(lines)


def size_of(style, text):
    """The SIZE of the box of text."""
    lines = lines_of(style, text)
    width = max([width_of(style, line) for line in lines])
    height = style[HEIGHT] * len(lines) + style[LEAD] * (len(lines) - 1)
    return (max(1, width), height)


def tether_of(tie, size, slack, low, high):
    """The TETHER by one axis of a box so large, tied to what reaches from low to high."""
    if tie == "free":
        return (low, size + slack, high, slack)
    if tie == "before":
        return (low, size + slack, low, 0 - size)
    if tie == "behind":
        return (high, 0, high, slack)
    half = size // 2
    return (low, half + slack, high, slack - half)


def tethers_of(style, size, area):
    """The pair of the TETHERS across and down of a box of this SIZE, tied to area."""
    across, down = TIES[style[HOLD]]
    slack = style[SLACK]
    width, height = size
    west, north, east, south = area
    return (tether_of(across, width, slack, west, east), tether_of(down, height, slack, north, south))


def name_of(style, text, area):
    """The NAME of text, tied to area."""
    size = size_of(style, text)
    across, down = tethers_of(style, size, area)
    return (size[0], size[1], across, down)


def ranking_of(styles, classes):
    """The places of classes, the greatest weight first, of one weight the least place."""
    ranked = sorted([(-styles[kind][WEIGHT], place) for place, kind in enumerate(classes)])
    return tuple([place for weight, place in ranked])
