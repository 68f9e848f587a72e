"""Texts [21]: written and read again, and bent in one place beside plain rules for each line."""

import fractions
import inspect
import itertools
import math
import random
import re

from glidenames.books import book_of
from glidenames.errors import BadText
from glidenames.glides import is_glide
from glidenames.maps import is_map, map_moved, sized
from glidenames.pages import is_page, is_way, way_length
from glidenames.sides import is_sides
from glidenames.styles import is_styles
from glidenames.texts import (
    book_told, glide_told, map_told, page_told, ranking_told, read_book, read_glide, read_map, read_page, read_ranking,
    read_sides, read_styles, sides_told, styles_told,
)
from tests.drawn import (
    HOLDS, ROW, STILL, TOWN, drawn_loose, drawn_map, drawn_page, drawn_row, drawn_sides, drawn_styles,
)
from tests.kit import Calls, as_lists
from tests.reckoned import pair
from tests.test_glides import drawn_glide, some_glides

OLD = (1, "Old Road", 1, (((0, 0), (5, 0), (5, 4)), 2, 9))
FORD, MOOR = (0, "Ford", 0, (3, -4)), (2, "Moor ~ x", 2, (-1, 1, 6, 3))
STYLES = ((3, ((" ", 2), ("i", 1), ("~", 5)), 1, 6, 2, 40, "middle", 2, -5), (2, (), 0, 4, 1, 100, "right", 3, 9))
GLIDE = (((1, 2), ()), ((1, 1), (((-1, 2), (0, 1)),)))
MOST = 10 ** 40 - 1

NUMBER = r"(?:0|-?[1-9][0-9]{0,39})"
COUNT = r"(?:0|[1-9][0-9]{0,39})"
ABOVE = r"[1-9][0-9]{0,39}"
TEXT = r"(?! )(?!.*  )(?!.* $)[ -~]{1,60}"


def numbers(line):
    """The numbers of a line that has words of one kind alone behind the first one."""
    return [int(word) for word in line.split(" ")[1:]]


def parts(word):
    """The number of a fraction word, None if it is none."""
    if not re.fullmatch(f"{NUMBER}(?:/{ABOVE})?", word) or word.endswith("/1"):
        return None
    top, _, below = word.partition("/")
    return fractions.Fraction(int(top), int(below or 1)) if math.gcd(int(top), int(below or 1)) == 1 else None


def page_line(ahead, line):
    """Whether line can stand in a PAGE behind those ahead of it."""
    if not ahead:
        return line == "page"
    if ahead[-1].startswith("way "):
        if not re.fullmatch(f"corners(?: {NUMBER} {NUMBER})+", line):
            return False
        corners = numbers(line)
        way = tuple(zip(corners[::2], corners[1::2]))
        return is_way(way) and int(ahead[-1].split(" ")[3]) <= way_length(way)
    if re.fullmatch(f"spot {COUNT} {NUMBER} {NUMBER} {TEXT}", line):
        return True
    if re.fullmatch(f"way {COUNT} {COUNT} {COUNT} {TEXT}", line):
        return int(line.split(" ")[2]) <= int(line.split(" ")[3])
    if re.fullmatch(f"area {COUNT} {NUMBER} {NUMBER} {NUMBER} {NUMBER} {TEXT}", line):
        west, north, east, south = map(int, line.split(" ")[2:6])
        return west <= east and north <= south
    return False


def style_line(ahead, line):
    """Whether line can stand in STYLES behind those ahead of it."""
    if not ahead:
        return line == "styles"
    if re.fullmatch(f"style {ABOVE} {COUNT} {ABOVE} {COUNT} {ABOVE} {COUNT} {NUMBER} (?:{'|'.join(HOLDS)})", line):
        return True
    if len(ahead) > 1 and re.fullmatch(f"sign [ -~] {ABOVE}", line):
        return not ahead[-1].startswith("sign ") or ahead[-1][5] < line[5]
    return False


def map_line(ahead, line):
    """Whether line can stand in a MAP behind those ahead of it."""
    if not ahead:
        return line == "map"
    if not re.fullmatch(f"name {ABOVE} {ABOVE}" + f" {NUMBER}" * 8, line):
        return False
    own = numbers(line)
    return all([low <= high and before + behind >= 0 for low, before, high, behind in (own[2:6], own[6:])])


def side_line(ahead, line):
    """Whether line can stand in SIDES behind those ahead of it."""
    if not ahead:
        return line == "sides"
    return bool(re.fullmatch("side" + " [012]" * (len(ahead) - 1), line))


def ranking_line(ahead, line):
    """Whether line can stand in a RANKING."""
    if ahead or not re.fullmatch(f"ranking(?: {COUNT})+", line):
        return False
    return sorted(numbers(line)) == [*range(len(numbers(line)))]


def book_line(ahead, line):
    """Whether line can stand in a BOOK."""
    words = line.split(" ")
    worths = [parts(word) for word in words[1:] if word != "-"]
    return not ahead and words[0] == "book" and len(words) > 1 and all([own is not None and own >= 0 for own in worths])


def glide_line(ahead, line):
    """Whether line can stand in a GLIDE behind those ahead of it."""
    if not ahead:
        return line == "glide"
    words = line.split(" ")
    worths = [parts(word) for word in words[1:]]
    if words[0] != "at" or len(worths) % 2 == 0 or None in worths or worths[0] <= 0:
        return False
    return len(ahead) == 1 or parts(ahead[-1].split(" ")[1]) < worths[0]


# By reader: what tells its text, whether a line can stand, and how many lines there must be at least.
KINDS = {
    read_page: (page_told, page_line, 1),
    read_styles: (styles_told, style_line, 2),
    read_map: (map_told, map_line, 2),
    read_sides: (sides_told, side_line, 2),
    read_ranking: (ranking_told, ranking_line, 1),
    read_book: (book_told, book_line, 1),
    read_glide: (glide_told, glide_line, 3),
}


def bad_line(read, text):
    """The line of a text that is at fault, None if there is none."""
    _, may_stand, least = KINDS[read]
    rows = text.split("\n")
    for at, line in enumerate(rows[:-1]):
        if not may_stand(rows[:at], line):
            return at + 1
    wanting = len(rows) <= least or (read is read_page and rows[-2].startswith("way "))
    return len(rows) if wanting or rows[-1] else None


def drawn_values(picked):
    """Pairs of a reader and a value that it reads."""
    many = picked.randrange(1, 6)
    chart, sides = drawn_loose(picked, many)
    ranking = drawn_row(picked, many)
    book = book_of(chart, sides, ranking)
    yield read_page, drawn_page(picked, picked.randrange(5))
    yield read_styles, drawn_styles(picked, picked.randrange(1, 4))
    yield read_map, map_moved(drawn_map(picked, many), picked.randrange(-99, 99), 0)
    yield read_sides, drawn_sides(picked, many)
    yield read_ranking, ranking
    yield read_book, book
    yield read_glide, drawn_glide(picked, chart, sides, book)


def bent(picked, text):
    """A text with one place bent."""
    at = picked.randrange(len(text) + 1)
    rows = text.split("\n")
    line = picked.randrange(len(rows))
    return picked.choice((
        lambda: text[:at] + text[at + 1:],
        lambda: text[:at] + picked.choice(" 01-/9\n~s") + text[at:],
        lambda: text[:at] + picked.choice(" 0123456789-/\n\t\r~x") + text[at + 1:],
        lambda: "\n".join(rows[:line] + rows[line + 1:]),
        lambda: "\n".join(rows[:line] + rows[line:line + 1] + rows[line:]),
        lambda: "\n".join(rows[:line + 1]),
        lambda: "\n".join(picked.sample(rows[:-1], len(rows) - 1) + [""]),
        lambda: text + picked.choice(("\n", " ", "0", "x\n", "sign z 9\n", "side\n")),
    ))()


class TestTold(Calls):
    def test_as_told(self):
        self.told("page\nway 1 2 9 Old Road\ncorners 0 0 5 0 5 4\nspot 0 3 -4 Ford\n", page_told, (OLD, FORD))
        self.told("page\narea 2 -1 1 6 3 Moor ~ x\n", page_told, (MOOR,))
        self.told("page\n", page_told, ())
        self.told("styles\nstyle 3 1 6 2 40 2 -5 middle\nsign   2\nsign i 1\nsign ~ 5\nstyle 2 0 4 1 100 3 9 right\n", styles_told, STYLES)
        self.told("map\nname 4 1 0 2 0 2 0 0 0 0\nname 4 1 3 2 3 2 0 0 0 0\n", map_told, ROW[:2])
        self.told("map\nname 6 2 0 0 10 0 0 0 4 0\n", map_told, TOWN[:1])
        self.told("sides\nside\nside 0\nside 2 1\n", sides_told, ((), (0,), (2, 1)))
        self.told("sides\nside\n", sides_told, ((),))
        self.told("ranking 1 0\n", ranking_told, (1, 0))
        self.told("book 0 2/3 -\n", book_told, ((0, 1), (2, 3), None))
        self.told("book 7\n", book_told, ((7, 1),))
        self.told("glide\nat 1/2\nat 1 -1/2 0\n", glide_told, GLIDE)

    def test_read_again(self):
        picked = random.Random(251)
        for _ in range(40):
            for read, value in drawn_values(picked):
                tell = KINDS[read][0]
                text = tell(value)
                self.told(text, tell, value)
                self.told(value, read, text)
                self.assertIsNone(bad_line(read, text))
                self.assertTrue(text.endswith("\n"))
                self.assertEqual(text.strip(" "), text)

    def test_great_numbers(self):
        for own in (MOST, -MOST, 10 ** 39, 0):
            high = max(own, 0)
            chart = ((MOST, 10 ** 39, (own, -own, high, own), (-MOST, 0, MOST, 0)),)
            self.told(chart, read_map, map_told(chart))
            self.told(((0, "x", 0, (own, -own)),), read_page, page_told(((0, "x", 0, (own, -own)),)))
            glide = (((1, MOST), ()), ((MOST, MOST - 1), (((own, 1), (-1, MOST)),)))
            self.told(glide, read_glide, glide_told(glide))
            style = (MOST, (("i", MOST),), 0, 1, MOST, MOST, "over", MOST, own)
            self.told((style,), read_styles, styles_told((style,)))
        # A WAY as long as can be.
        way = ((-MOST, 0), (MOST, 0), (MOST, MOST))
        piece = ((MOST, "x", 1, (way, 0, MOST)),)
        self.told(piece, read_page, page_told(piece))

    def test_what_is_read_is_such_a_value(self):
        picked = random.Random(252)
        tests = {read_page: (is_page, ()), read_styles: (is_styles, ()), read_map: (is_map, ()), read_sides: (is_sides, (0,))}
        for _ in range(10):
            for read, value in drawn_values(picked):
                if read in tests:
                    test, more = tests[read]
                    self.judged(test, [read(KINDS[read][0](value))], [as_lists(value)], *[[(1, 1, STILL, STILL)] * len(value) for _ in more])

    def test_arguments_by_name(self):
        for read, (tell, _, _) in KINDS.items():
            self.assertEqual([*inspect.signature(read).parameters], ["text"])
            self.assertEqual(len(inspect.signature(tell).parameters), 1)


class TestFaults(Calls):
    def bad(self, read, line, text):
        self.refused(BadText, {"line": line}, read, text)
        self.assertEqual(bad_line(read, text), line)

    def good(self, read, value, text):
        self.told(value, read, text)
        self.assertIsNone(bad_line(read, text))
        self.assertEqual(KINDS[read][0](value), text)

    def test_heads_and_ends(self):
        texts = {read: KINDS[read][0](value) for read, value in (
            (read_page, (OLD, FORD)), (read_styles, STYLES), (read_map, ROW), (read_sides, ((), (0,))), (read_ranking, (1, 0)),
            (read_book, ((0, 1), None)), (read_glide, GLIDE),
        )}
        for read, text in texts.items():
            rows = text.split("\n")
            self.bad(read, 1, "")
            self.bad(read, 1, "\n")
            self.bad(read, 1, " " + text)
            self.bad(read, 1, "\n" + text)
            self.bad(read, 1, rows[0] + " \n" + "\n".join(rows[1:]))
            self.bad(read, 1, rows[0][:-1] + "\n")
            self.bad(read, 1, text.upper())
            # Not ended, one too many, an empty one; the first fault counts.
            self.bad(read, len(rows) - 1, text[:-1])
            self.bad(read, len(rows), text + "\n")
            self.bad(read, len(rows), text + " ")
            self.bad(read, len(rows), text + rows[0] + "\n")
            self.bad(read, len(rows), text + "x")
            self.bad(read, 1, text.replace("\n", "\r\n"))
            self.bad(read, 1, "x" + text[:-1])
            for other, behind in texts.items():
                if other is not read:
                    self.assertRaises(BadText, read, behind)
            if len(rows) > 2:
                self.bad(read, 2, rows[0] + "\n" + rows[1])
                self.bad(read, 2, rows[0] + "\n " + "\n".join(rows[1:]))
                self.bad(read, 2, rows[0] + "\n\n" + "\n".join(rows[1:]))
                self.bad(read, 1, rows[0])

    def test_lines_that_are_wanting(self):
        self.good(read_page, (), "page\n")
        for read, text in ((read_styles, "styles\n"), (read_map, "map\n"), (read_sides, "sides\n"), (read_glide, "glide\n")):
            self.bad(read, 2, text)
        self.bad(read_glide, 3, "glide\nat 1\n")
        self.good(read_glide, (((1, 1), ()), ((2, 1), ())), "glide\nat 1\nat 2\n")
        self.bad(read_page, 3, "page\nway 0 0 5 Lane\n")
        self.bad(read_ranking, 1, "ranking\n")
        self.bad(read_book, 1, "book\n")

    def test_numbers(self):
        for word in ("01", "00", "-0", "-01", "+1", "1.0", "1e3", "", "-", "--1", "1-", "0x1", "1_0", "9" * 41, "-" + "1" * 41, "\u0663", "1\u0660", "\u00b2", "a", "1/1", "2/1"):
            self.bad(read_page, 2, f"page\nspot 0 {word} 0 x\n")
            self.bad(read_map, 2, f"map\nname 1 1 0 0 {word} 0 0 0 0 0\n")
            self.bad(read_ranking, 1, f"ranking 0 {word}\n")
            if word != "-":
                self.bad(read_book, 1, f"book 0 {word} 0\n")
        for word in ("4/2", "0/2", "0/1", "1/0", "1/-2", "-1/2", "2/4", "1/", "/2", "1/2/3", "1/02", "01/2", "1 /2", "1/" + "9" * 41, "5/1", "--", "-/2", "1/+2"):
            self.bad(read_book, 1, f"book {word}\n")
        for word, own in (("0", (0, 1)), ("1/" + "9" * 40, (1, MOST)), ("9" * 40, (MOST, 1)), ("10/3", (10, 3)), ("-", None)):
            self.good(read_book, (own, own), f"book {word} {word}\n")
        for word, own in (("-1/2", (-1, 2)), ("-7", (-7, 1)), ("0", (0, 1)), ("-" + "9" * 40 + "/2", (-MOST, 2))):
            self.good(read_glide, (((1, 2), ((own, own),)), ((1, 1), ())), f"glide\nat 1/2 {word} {word}\nat 1\n")
        for word in ("-0", "-2/4", "-1/1", "-1/-2", "-", "1/1"):
            self.bad(read_glide, 2, f"glide\nat 1/2 0 {word}\nat 1\n")

    def test_blanks(self):
        for read, line, text in (
            (read_map, 2, "map\nname  1 1 0 0 0 0 0 0 0 0\n"), (read_map, 2, "map\nname 1 1 0 0 0 0 0 0 0 0 \n"), (read_map, 2, "map\n name 1 1 0 0 0 0 0 0 0 0\n"),
            (read_map, 2, "map\nname\t1 1 0 0 0 0 0 0 0 0\n"), (read_ranking, 1, "ranking 0  1\n"), (read_ranking, 1, "ranking 0 1 \n"), (read_book, 1, "book  -\n"),
            (read_sides, 2, "sides\nside \n"), (read_sides, 3, "sides\nside\nside  0\n"), (read_glide, 2, "glide\nat  1\nat 2\n"), (read_glide, 3, "glide\nat 1\nat 2 \n"),
            (read_page, 2, "page\nspot 0 0 0  x\n"), (read_page, 2, "page\nspot 0 0 0 x \n"), (read_page, 2, "page\nspot 0 0  0 x\n"), (read_page, 2, "page\nspot 0 0 0 x  y\n"),
            (read_styles, 2, "styles\nstyle 1 0 1 0 1 0 0  middle\n"), (read_styles, 3, "styles\nstyle 1 0 1 0 1 0 0 middle\nsign  1\n"),
            (read_styles, 3, "styles\nstyle 1 0 1 0 1 0 0 middle\nsign    1\n"), (read_styles, 3, "styles\nstyle 1 0 1 0 1 0 0 middle\nsign i  1\n"),
        ):
            self.bad(read, line, text)

    def test_pages(self):
        # Texts of their own words, of 60 signs; like other lines.
        for text in ("x", "0", "1 2 3", "spot 0 0 0 x", "~" * 60, "a " * 29 + "bb", "!\"#$&'()*+,-./:;<=>?@[]^_`{|}~"):
            self.good(read_page, ((7, text, 0, (1, 2)),), f"page\nspot 7 1 2 {text}\n")
            self.good(read_page, ((7, text, 2, (1, 2, 1, 2)),), f"page\narea 7 1 2 1 2 {text}\n")
        for text in ("", " ", "~" * 61, "a\tb", "\u00e9", "a  b", "\x7f"):
            self.bad(read_page, 2, f"page\nspot 7 1 2 {text}\n")
            self.bad(read_page, 2, f"page\nway 7 0 2 {text}\ncorners 0 0 0 5\n")
        for line in ("spot 0 0 x", "spot 0 0 0", "spot -1 0 0 x", "spot x 0 0 x", "spot", "area 0 0 0 0 x", "area 0 1 0 0 0 x", "area 0 0 1 0 0 x", "area -1 0 0 0 0 x",
                     "way 0 5 4 x", "way 0 -1 4 x", "way -1 0 4 x", "way 0 0 4", "corners 0 0 5 0", "lake 0 0 0 x", "Spot 0 0 0 x", ""):
            self.bad(read_page, 2, f"page\n{line}\n")
        lane = (0, "Lane", 1, (((0, 0), (0, 5)), 5, 5))
        self.good(read_page, (lane,), "page\nway 0 5 5 Lane\ncorners 0 0 0 5\n")
        for line in ("corners 0 0 0 4", "corners 0 0 0", "corners 0 0", "corners", "corners 0 0 5 5", "corners 0 0 0 0 0 5", "corners 0 0 0 5 0", "corners 0 0  0 5",
                     "spot 0 0 0 x", "way 0 0 4 x", "Corners 0 0 0 5", ""):
            self.bad(read_page, 3, f"page\nway 0 5 5 Lane\n{line}\n")
        self.bad(read_page, 4, "page\nway 0 5 5 Lane\ncorners 0 0 0 5\ncorners 0 0 0 5\n")
        self.good(read_page, (FORD,) * 3, page_told((FORD,) * 3))

    def test_styles(self):
        own = (1, (), 0, 1, 0, 1, "left", 0, 0)
        self.good(read_styles, (own,), "styles\nstyle 1 0 1 0 1 0 0 left\n")
        self.good(read_styles, ((1, ((" ", 9),), 0, 1, 0, 1, "left", 0, 0),), "styles\nstyle 1 0 1 0 1 0 0 left\nsign   9\n")
        for line in ("style 0 0 1 0 1 0 0 left", "style 1 -1 1 0 1 0 0 left", "style 1 0 0 0 1 0 0 left", "style 1 0 1 -1 1 0 0 left", "style 1 0 1 0 0 0 0 left",
                     "style 1 0 1 0 1 -1 0 left", "style 1 0 1 0 1 0 0 Left", "style 1 0 1 0 1 0 0", "style 1 0 1 0 1 0 left", "style 1 0 1 0 1 0 0 left 0", "style",
                     "sign i 1", "sign   1", "style left 0 1 0 1 0 0 1"):
            self.bad(read_styles, 2, f"styles\n{line}\n")
        for line in ("sign i 0", "sign i -1", "sign i", "sign 1", "sign ii 1", "sign i 1 1", "sign i x", "sign", "sign ", "sign  ", "signi 1", "sign \t 1", "sign \u00e9 1", "sign i1 1"):
            self.bad(read_styles, 3, f"styles\nstyle 1 0 1 0 1 0 0 left\n{line}\n")
        for first, second in (("i", "i"), ("i", "h"), ("i", " "), ("~", "}")):
            self.bad(read_styles, 4, f"styles\nstyle 1 0 1 0 1 0 0 left\nsign {first} 1\nsign {second} 2\n")
        # A new STYLE begins anew.
        twice = (put_widths(own, (("i", 1),)), put_widths(own, (("h", 2), ("i", 1))))
        self.good(read_styles, twice, styles_told(twice))

    def test_maps_and_the_others(self):
        for line in ("name 0 1 0 0 0 0 0 0 0 0", "name 1 0 0 0 0 0 0 0 0 0", "name 1 1 1 0 0 0 0 0 0 0", "name 1 1 0 -1 0 0 0 0 0 0", "name 1 1 0 0 0 0 0 0 -1 0",
                     "name 1 1 0 0 0 0 0 0 0 -1", "name 1 1 0 0 0 0 0 0 0", "name 1 1 0 0 0 0 0 0 0 0 0", "name", "Name 1 1 0 0 0 0 0 0 0 0"):
            self.bad(read_map, 2, f"map\n{line}\n")
        for line in ("side 0", "side -", "sides"):
            self.bad(read_sides, 2, f"sides\n{line}\n")
        for line in ("side", "side 3", "side -1", "side 0 0", "side 00", "side x"):
            self.bad(read_sides, 3, f"sides\nside\n{line}\n")
        self.good(read_sides, ((), (2,), (0, 1), (1, 1, 1)), "sides\nside\nside 2\nside 0 1\nside 1 1 1\n")
        for line in ("ranking 1", "ranking 0 0", "ranking 0 2", "ranking -1 0", "ranking 0 1 1", "ranking 1 2", "ranking x", "rankings 0"):
            self.bad(read_ranking, 1, f"{line}\n")
        self.good(read_ranking, tuple(range(20))[::-1], "ranking " + " ".join([str(own) for own in range(19, -1, -1)]) + "\n")
        for line in ("at 0", "at -1", "at", "at 1 0", "at 1 0 0 0", "at 2/2", "at - 0 0", "at 1 - -", "in 1"):
            self.bad(read_glide, 2, f"glide\n{line}\nat 9\n")
        for line in ("at 1/2", "at 1/3", "at 2/4", "at 0", "glide"):
            self.bad(read_glide, 3, f"glide\nat 1/2 0 0\n{line}\nat 9\n")
        self.good(read_glide, GLIDE + (((10, 9), ()),), glide_told(GLIDE) + "at 10/9\n")

    def test_bent_in_one_place(self):
        picked = random.Random(253)
        found = {read: [] for read in KINDS}
        for _ in range(120):
            for read, value in drawn_values(picked):
                text = bent(picked, KINDS[read][0](value))
                line = bad_line(read, text)
                if line is None:
                    value = read(text)
                    self.told(value, read, text)
                    self.assertEqual(KINDS[read][0](value), text)
                else:
                    self.refused(BadText, {"line": line}, read, text)
                found[read].append(line)
        for lines in found.values():
            self.assertIn(None, lines)
            self.assertIn(1, lines)
        for read in (read_page, read_styles, read_map, read_sides, read_glide):
            self.assertGreater(len({*found[read]}), 4)

    def test_all_short_texts(self):
        for many in range(4):
            for signs in itertools.product("0 -\n", repeat=many):
                for read in KINDS:
                    self.bad(read, bad_line(read, "".join(signs)), "".join(signs))
        for head, read in (("book", read_book), ("ranking", read_ranking), ("page\n", read_page), ("sides\nside", read_sides), ("glide\nat 1\nat", read_glide)):
            for many in range(5):
                for signs in itertools.product(" 01-/\n"[:5 if many > 3 else 6], repeat=many):
                    text = head + "".join(signs)
                    line = bad_line(read, text)
                    if line is None:
                        self.assertEqual(KINDS[read][0](read(text)), text)
                    else:
                        with self.assertRaises(BadText) as caught:
                            read(text)
                        self.assertEqual(caught.exception.line, line)


class TestGlides(Calls):
    def test_glides_are_read_as_they_are(self):
        for chart, sides, book, way in some_glides(254, 20):
            self.judged(is_glide, [read_glide(glide_told(way))], [as_lists(way)], chart, sides, book)
        # Of a GLIDE it is the form that counts: whatever PLACES there are, and of however many.
        self.told((((1, 9), (((0, 1), (0, 1)),) * 2), ((2, 9), ())), read_glide, "glide\nat 1/9 0 0 0 0\nat 2/9\n")

    def test_what_is_returned_is_told(self):
        chart = sized(ROW, 10 ** 30)
        book = book_of(chart, ((), (0,), (0, 0)), (0, 2, 1))
        self.told(book, read_book, book_told(book))
        self.assertEqual(book[1], pair(fractions.Fraction(2 * 10 ** 30, 3)))


def put_widths(style, widths):
    """A STYLE with these widths."""
    return (style[0], widths, *style[2:])
