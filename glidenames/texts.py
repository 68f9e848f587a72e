"""Texts: pages, styles, maps, sides, rankings, books and glides, written and read."""

from glidenames.fractions import is_less, is_scale
from glidenames.lines import Lines
from glidenames.maps import is_name
from glidenames.pages import ON_AREA, ON_SPOT, ON_WAY, is_feature, is_text
from glidenames.sides import BAN
from glidenames.styles import GAP, HEIGHT, HOLD, LEAD, LETTER, LONGEST, SLACK, WEIGHT, WIDTHS, is_style
from glidenames.values import is_from, is_place, with_part
from glidenames.words import (
    fraction_told, fraction_word, fractions_told, number_told, number_word, numbers_told,
)

# The parts of a STYLE in the order in which its line tells them, hold behind them.
TOLD = (LETTER, GAP, HEIGHT, LEAD, LONGEST, SLACK, WEIGHT)

# How a line for the sign of a STYLE begins.
SIGN = "sign "

NEVER = "-"

# By the word with which a FEATURE begins: how many numbers stand between it and the text.
NUMBERS = {"spot": 3, "way": 3, "area": 5}


def ended(lines):
    """The text of lines, each ended by a line feed."""
    return "".join([line + "\n" for line in lines])


def line_of(word, numbers):
    """A line of word and numbers."""
    return " ".join([word] + [number_word(number) for number in numbers])


def feature_lines(feature):
    """The lines of feature."""
    group, text, kind, where = feature
    if kind == ON_SPOT:
        return [line_of("spot", [group, *where]) + " " + text]
    if kind == ON_AREA:
        return [line_of("area", [group, *where]) + " " + text]
    way, first, last = where
    corners = [number for corner in way for number in corner]
    return [line_of("way", [group, first, last]) + " " + text, line_of("corners", corners)]


def page_told(page):
    """The text of page."""
    return ended(["page"] + [line for feature in page for line in feature_lines(feature)])


def style_lines(style):
    """The lines of style."""
    line = line_of("style", [style[part] for part in TOLD]) + " " + style[HOLD]
    return [line] + [SIGN + sign + " " + number_word(width) for sign, width in style[WIDTHS]]


def styles_told(styles):
    """The text of styles."""
    return ended(["styles"] + [line for style in styles for line in style_lines(style)])


def map_told(chart):
    """The text of chart."""
    names = [[width, height, *across, *down] for width, height, across, down in chart]
    return ended(["map"] + [line_of("name", own) for own in names])


def sides_told(sides):
    """The text of sides."""
    return ended(["sides"] + [line_of("side", own) for own in sides])


def ranking_told(ranking):
    """The text of ranking."""
    return ended([line_of("ranking", ranking)])


def number_or_never(own):
    """The word for where a NAME comes."""
    return NEVER if own is None else fraction_word(own)


def book_told(book):
    """The text of book."""
    return ended([" ".join(["book"] + [number_or_never(own) for own in book])])


def pair_line(scale, standing):
    """The line of a pair of a GLIDE."""
    return " ".join(["at", fraction_word(scale)] + [fraction_word(own) for place in standing for own in place])


def glide_told(glide):
    """The text of glide."""
    return ended(["glide"] + [pair_line(*pair) for pair in glide])


def rows_read(text, head, read, least):
    """The tuple of what text tells below the line head, at least so many, each put to the others by read."""
    lines = Lines(text)
    lines.check(lines.take() == head)
    rows = []
    while len(rows) < least or lines.is_left():
        rows = read(lines, rows)
    return tuple(rows)


def words_behind(line, word):
    """The words of line behind word; None if it does not begin with that."""
    words = line.split(" ")
    return words[1:] if words[0] == word else None


def numbers_behind(line, word):
    """The numbers that line tells behind word; None if it tells anything else."""
    words = words_behind(line, word)
    return None if words is None else numbers_told(words)


def paired(parts):
    """The tuple of the pairs of parts next to one another."""
    return tuple(zip(parts[::2], parts[1::2]))


def piece_read(lines, told, text):
    """The FEATURE of a piece of a WAY, of which the line has been taken that tells all but the corners."""
    group, first, last = told
    lines.check(is_from(group, 0) and is_text(text) and 0 <= first <= last)
    numbers = numbers_behind(lines.take(), "corners")
    lines.check(numbers is not None and len(numbers) % 2 == 0)
    return (group, text, ON_WAY, (paired(numbers), first, last))


def feature_read(lines, rows):
    """rows and the next FEATURE of lines."""
    line = lines.take()
    word = line.partition(" ")[0]
    lines.check(word in NUMBERS)
    # The text has blanks of its own.
    parts = line.split(" ", NUMBERS[word] + 1)
    numbers, text = numbers_told(parts[1:-1]), parts[-1]
    lines.check(numbers is not None and len(numbers) == NUMBERS[word])
    if word == "way":
        own = piece_read(lines, numbers, text)
    else:
        own = (numbers[0], text, ON_SPOT if word == "spot" else ON_AREA, numbers[1:])
    lines.check(is_feature(own))
    return rows + [own]


def read_page(text):
    """The PAGE that text tells."""
    return rows_read(text, "page", feature_read, 0)


def sign_put(style, line):
    """style and, among its widths, what line, one for a sign, tells; None if line has not that form."""
    at = len(SIGN)
    if line[at + 1:at + 2] != " ":
        return None
    return with_part(style, WIDTHS, style[WIDTHS] + ((line[at:at + 1], number_told(line[at + 2:])),))


def style_of(line):
    """The STYLE, without widths, that line tells; None if it has not that form."""
    words = words_behind(line, "style")
    if words is None or len(words) != len(TOLD) + 1:
        return None
    letter, gap, height, lead, longest, slack, weight = [number_told(word) for word in words[:-1]]
    return (letter, (), gap, height, lead, longest, words[-1], slack, weight)


def style_read(lines, rows):
    """rows and what the next line of lines tells: a STYLE, or a width of the last one."""
    line = lines.take()
    if len(rows) > 0 and line.startswith(SIGN):
        rows, own = rows[:-1], sign_put(rows[-1], line)
    else:
        own = style_of(line)
    lines.check(is_style(own))
    return rows + [own]


def read_styles(text):
    """The STYLES that text tells."""
    return rows_read(text, "styles", style_read, 1)


def name_read(lines, rows):
    """rows and the next NAME of lines."""
    numbers = numbers_behind(lines.take(), "name")
    lines.check(numbers is not None)
    own = numbers[:2] + (numbers[2:6], numbers[6:])
    lines.check(is_name(own))
    return rows + [own]


def read_map(text):
    """The MAP that text tells."""
    return rows_read(text, "map", name_read, 1)


def side_read(lines, rows):
    """rows and the next row of SIDES of lines."""
    numbers = numbers_behind(lines.take(), "side")
    lines.check(numbers is not None and len(numbers) == len(rows))
    lines.check(all([is_place(own, BAN + 1) for own in numbers]))
    return rows + [numbers]


def read_sides(text):
    """The SIDES that text tells."""
    return rows_read(text, "sides", side_read, 1)


def read_ranking(text):
    """The RANKING that text tells."""
    lines = Lines(text)
    numbers = numbers_behind(lines.take(), "ranking")
    lines.check(numbers is not None and len(numbers) > 0)
    lines.check(sorted(numbers) == list(range(len(numbers))))
    lines.check_end()
    return numbers


def is_coming(word):
    """Whether word is one for where a NAME comes."""
    own = fraction_told(word)
    return word == NEVER or (own is not None and own[0] >= 0)


def read_book(text):
    """The BOOK that text tells."""
    lines = Lines(text)
    words = words_behind(lines.take(), "book")
    lines.check(words is not None and len(words) > 0 and all([is_coming(word) for word in words]))
    lines.check_end()
    return tuple([fraction_told(word) for word in words])


def pair_read(lines, rows):
    """rows and the next pair of a GLIDE of lines."""
    words = words_behind(lines.take(), "at")
    lines.check(words is not None and len(words) % 2 == 1)
    told = fractions_told(words)
    lines.check(told is not None and is_scale(told[0]))
    lines.check(len(rows) == 0 or is_less(rows[-1][0], told[0]))
    return rows + [(told[0], paired(told[1:]))]


def read_glide(text):
    """The GLIDE that text tells."""
    return rows_read(text, "glide", pair_read, 2)
