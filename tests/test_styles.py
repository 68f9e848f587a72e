"""Styles [5]: what is one, and breaks held against all breaks there are."""

import itertools
import random

from glidenames.styles import (
    is_style, is_styles, ladder, lines_of, name_of, ranking_of, size_of, tethers_of, width_of,
)
from tests.kit import NO_NUMBERS, NUMBERS, THINGS, Calls, nested

PLAIN = (3, (("i", 1), ("m", 5)), 1, 6, 2, 40, "middle", 2, 5)
SIDE = (2, (), 0, 4, 1, 100, "right", 3, 9)
HOLDS = ("middle", "free", "left", "right", "over", "under")
# The least that each part may be, by its place; None for any number.
LEAST = {0: 1, 2: 0, 3: 1, 4: 0, 5: 1, 7: 0, 8: None}
SIGNS = [bytes([code]).decode("ascii") for code in range(32, 127)]


def with_part(style, place, part):
    """style with this part at this place."""
    return style[:place] + (part,) + style[place + 1:]


def with_parts(style, **parts):
    """style with these parts, by their names."""
    names = ("letter", "widths", "gap", "height", "lead", "longest", "hold", "slack", "weight")
    for name, part in parts.items():
        style = with_part(style, names.index(name), part)
    return style


class TestIsStyle(Calls):
    def test_numbers_to_their_bounds_and_beyond(self):
        for place, low in LEAST.items():
            yes = [number for number in NUMBERS if low is None or number >= low]
            no = [number for number in NUMBERS if low is not None and number < low]
            no += [] if low is None else [low - 1]
            self.judged(
                is_style,
                [with_part(PLAIN, place, number) for number in yes] + [with_part(PLAIN, place, low or 0)],
                [with_part(PLAIN, place, number) for number in no],
            )

    def test_what_is_no_number_in_the_place_of_one(self):
        for place in LEAST:
            self.judged(is_style, (), [with_part(PLAIN, place, thing) for thing in NO_NUMBERS])

    def test_holds(self):
        wrong = [thing for thing in THINGS if thing not in HOLDS] + ["Middle", "left ", "lef", "free\n", ("left",)]
        self.judged(
            is_style,
            [with_part(PLAIN, 6, hold) for hold in HOLDS],
            [with_part(PLAIN, 6, thing) for thing in wrong],
        )

    def test_widths(self):
        pairs = tuple((sign, 1 + place) for place, sign in enumerate(SIGNS))
        yes = [(), pairs, pairs[::7], ((" ", 1),), (("~", 10 ** 400),), (("a", 5), ("b", 1))]
        no = [pairs[::-1], (("b", 1), ("a", 5)), (("a", 1), ("a", 1)), (("a", 1), ("a", 2)), pairs + pairs[-1:]]
        no += [pairs[3:4] + pairs, [], [("a", 1)], (["a", 1],), ("a", 1), (("a", 0),), (("a", -1),), (("a",),)]
        no += [(("a", 1, 1),), (("", 1),), (("ab", 1),), ((1, "a"),), (("\n", 1),), (("\x7f", 1),), (("\x1f", 1),)]
        no += [(("\u00e9", 1),), ((("a", 1),),), (("a", 1), None), (("a", 1), 3), None, "a1"]
        no += [((thing, 1),) for thing in THINGS if thing != "a" and thing != "1"]
        no += [(("a", thing),) for thing in NO_NUMBERS]
        no += [thing for thing in THINGS if thing not in ((), (("a", 1),))]
        self.judged(is_style, [with_part(PLAIN, 1, widths) for widths in yes], ())
        self.judged(is_style, (), [with_part(PLAIN, 1, widths) for widths in no])

    def test_too_short_too_long_lists_and_things_of_every_kind(self):
        no = [PLAIN[:8], PLAIN[1:], PLAIN + (5,), PLAIN + PLAIN, (PLAIN,), [PLAIN], list(PLAIN), ()]
        no += [with_part(PLAIN, 1, list(PLAIN[1])), with_part(PLAIN, 1, tuple(map(list, PLAIN[1])))]
        no += [nested(50, tuple), (nested(99, list),) * 9, *THINGS]
        self.judged(is_style, (PLAIN, SIDE), no)

    def test_styles(self):
        yes = [(PLAIN,), (PLAIN, SIDE), (PLAIN, PLAIN, SIDE) * 10]
        no = [(), [], PLAIN, [PLAIN], [PLAIN, SIDE], ((PLAIN,),), (PLAIN, list(SIDE)), (PLAIN, SIDE[:8]), *THINGS]
        no += [(PLAIN, with_part(SIDE, 6, "up")), (with_part(SIDE, 0, True), PLAIN)]
        no += [(PLAIN, thing) for thing in THINGS] + [(thing, PLAIN) for thing in THINGS]
        self.judged(is_styles, yes, no)


class TestWidth(Calls):
    def test_letters_signs_of_their_own_and_gaps(self):
        for line, width in (("", 0), ("i", 1), ("m", 5), ("x", 3), ("im", 7), ("  ", 7), (" i ", 9), ("i" * 60, 119)):
            self.told(width, width_of, PLAIN, line)
        self.told(6, width_of, SIDE, "top")
        self.told(4 * 95 + 10 ** 6 - 4 + 94 * 100, width_of, (4, (("M", 10 ** 6),), 100) + SIDE[3:], "".join(SIGNS))

    def test_the_blank_may_have_a_width_of_its_own(self):
        style = with_parts(PLAIN, widths=((" ", 9), ("~", 2)))
        self.told(9 + 1 + 3 + 1 + 9 + 1 + 2, width_of, style, " a ~")


def all_breaks(text):
    """All BREAKS of text."""
    words = [word for word in text.split(" ") if word != ""]
    if not words:
        return [("",)]
    breaks = []
    for parted in itertools.product((" ", "\n"), repeat=len(words) - 1):
        joined = words[0] + "".join([between + word for between, word in zip(parted, words[1:])])
        breaks.append(tuple(joined.split("\n")))
    return breaks


def wide(style, lines):
    """The width of a BREAK, worked out by itself."""
    letter, widths, gap = style[:3]
    own = dict(widths)
    return max([sum([own.get(sign, letter) for sign in line]) + gap * max(0, len(line) - 1) for line in lines])


def ladder_of_all(style, text):
    """The ladder, found among all BREAKS."""
    found = {}
    for lines in all_breaks(text):
        found.setdefault(len(lines), []).append(wide(style, lines))
    return tuple([min(found[many]) for many in sorted(found)])


def best_of_all(style, text):
    """The BREAK that lines_of asks for, found among all."""
    fit = []
    for lines in all_breaks(text):
        if all([wide(style, (line,)) <= style[5] or " " not in line for line in lines]):
            words = [-len(line.split(" ")) for line in lines]
            fit.append((len(lines), wide(style, lines), words, lines))
    return min(fit)[3]


def some_texts():
    """Texts of no word and of many, with blanks in all places."""
    picked = random.Random(5)
    texts = ["", " ", " " * 60, "a", "  a  ", "~", "im mi", "a b c d e f g h", "mmmmmmmmmm i i i", "i i i mmmmmmmmmm"]
    for _ in range(120):
        words = ["".join(picked.choices("aim", k=picked.randrange(1, 7))) for _ in range(picked.randrange(1, 9))]
        texts.append("".join([" " * picked.choice((0, 0, 1, 2))] + [word + " " * picked.choice((1, 1, 2)) for word in words]))
    return [text[:60] for text in texts]


TEXTS = some_texts()
BREAKERS = [
    with_parts(PLAIN, longest=longest, gap=gap, widths=widths)
    for longest in (1, 8, 20, 33, 40, 10 ** 4)
    for gap, widths in ((1, PLAIN[1]), (0, ()), (7, ((" ", 1), ("a", 30))))
]


class TestBreaks(Calls):
    def test_ladder_as_among_all_breaks(self):
        for style in BREAKERS[:3]:
            for text in TEXTS:
                with self.subTest(style=style, text=text):
                    self.told(ladder_of_all(style, text), ladder, style, text)

    def test_ladder_never_rises_and_ends_with_the_widest_word(self):
        for text in TEXTS:
            rungs = ladder(PLAIN, text)
            self.same(list(rungs), sorted(rungs, reverse=True))
            self.assertEqual(len(rungs), max(1, len(text.split())))
            self.assertEqual(rungs[-1], max([width_of(PLAIN, word) for word in text.split()], default=0))
            self.assertEqual(rungs[0], width_of(PLAIN, " ".join(text.split())))

    def test_lines_as_the_best_of_all_breaks(self):
        for style in BREAKERS:
            for text in TEXTS:
                with self.subTest(style=style, text=text):
                    self.told(best_of_all(style, text), lines_of, style, text)

    def test_no_words(self):
        for text in ("", " ", " " * 60):
            self.told((0,), ladder, PLAIN, text)
            self.told(("",), lines_of, PLAIN, text)
            self.told((1, 6), size_of, PLAIN, text)

    def test_a_word_wider_than_longest_stands_by_itself(self):
        style = with_parts(SIDE, longest=9)
        self.told(("a", "long", "word", "b c"), lines_of, with_parts(SIDE, longest=7), "a long word b c")
        self.told(("a b", "overlong", "c d"), lines_of, style, "a b overlong c d")
        self.told((16, 14), size_of, style, "a b overlong c d")
        # "ab cd" is less wide than "overlong", but wider than longest.
        self.told(("ab", "cd", "overlong"), lines_of, style, "ab cd overlong")
        self.told(("overlong",), lines_of, with_parts(SIDE, longest=1), "overlong")

    def test_just_as_wide_as_longest(self):
        self.told(("abc de",), lines_of, with_parts(SIDE, longest=12), "abc de")
        self.told(("abc", "de"), lines_of, with_parts(SIDE, longest=11), "abc de")

    def test_of_several_breaks_the_least_width_then_most_words_first(self):
        # Taking all that longest lets would be "a b c d", "e".
        self.told(("a b c", "d e"), lines_of, with_parts(SIDE, longest=14), "a b c d e")
        self.told(("a b", "c d", "e"), lines_of, with_parts(SIDE, longest=6), "a b c d e")
        # "a", "wide one" and "a wide", "one" are of two lines; the second is less wide.
        self.told(("a wide", "one"), lines_of, with_parts(SIDE, longest=16), "a wide one")
        # The last word makes each BREAK as wide: the first line takes two words, then the second.
        self.told(("a b", "c", "abcdef"), lines_of, with_parts(SIDE, longest=7), "a b c abcdef")
        self.told(("a b", "c d", "e", "abcdef"), lines_of, with_parts(SIDE, longest=7), "a b c d e abcdef")

    def test_as_many_words_as_a_text_may_have(self):
        text = "a " * 29 + "b"
        rungs = ladder(SIDE, text)
        self.same(rungs, tuple([2 * (2 * -(-30 // many) - 1) for many in range(1, 31)]))
        self.told((" ".join("a" * 15), " ".join("a" * 14 + "b")), lines_of, SIDE, text)
        self.told((58, 9), size_of, SIDE, text)


class TestSize(Calls):
    def test_width_of_the_lines_and_height_with_leads(self):
        for style in BREAKERS[3:9]:
            for text in TEXTS:
                lines = best_of_all(style, text)
                height = style[3] * len(lines) + style[4] * (len(lines) - 1)
                self.told((max(1, wide(style, lines)), height), size_of, style, text)

    def test_one_line_has_no_lead(self):
        self.told((39, 6), size_of, PLAIN, "upper mill")
        self.told((39, 12), size_of, with_parts(PLAIN, lead=0), "upper mill on sea")
        self.told((39, 112), size_of, with_parts(PLAIN, lead=100), "upper mill on sea")


class TestTethers(Calls):
    def test_each_hold(self):
        area = (-10, 20, 30, 45)
        for hold, across, down in (
            ("middle", (-10, 8, 30, -2), (20, 7, 45, -1)),
            ("free", (-10, 14, 30, 3), (20, 11, 45, 3)),
            ("left", (-10, 14, -10, -11), (20, 7, 45, -1)),
            ("right", (30, 0, 30, 3), (20, 7, 45, -1)),
            ("over", (-10, 8, 30, -2), (20, 11, 20, -8)),
            ("under", (-10, 8, 30, -2), (45, 0, 45, 3)),
        ):
            self.told((across, down), tethers_of, with_parts(SIDE, hold=hold), (11, 8), area)

    def test_odd_sizes_no_slack_and_one_spot(self):
        style = with_parts(SIDE, slack=0)
        spot = (7, -3, 7, -3)
        for hold, across, down in (
            ("middle", (7, 0, 7, 0), (-3, 2, -3, -2)),
            ("free", (7, 1, 7, 0), (-3, 5, -3, 0)),
            ("left", (7, 1, 7, -1), (-3, 2, -3, -2)),
            ("right", (7, 0, 7, 0), (-3, 2, -3, -2)),
            ("over", (7, 0, 7, 0), (-3, 5, -3, -5)),
            ("under", (7, 0, 7, 0), (-3, 0, -3, 0)),
        ):
            self.told((across, down), tethers_of, with_parts(style, hold=hold), (1, 5), spot)

    def test_numbers_to_their_bounds_and_beyond(self):
        big = 10 ** 6
        for many in (big, 10 ** 40):
            area = (-many, -many, many, many)
            free, under = with_parts(SIDE, hold="free", slack=100), with_parts(SIDE, hold="under", slack=100)
            self.told(((-many, many + 100, many, 100),) * 2, tethers_of, free, (many, many), area)
            self.told(((-many, 101, many, 99), (many, 0, many, 100)), tethers_of, under, (3, 9), area)

    def places(self, style, size, area, scale):
        """From where to where the west and the north edge may be, at a SCALE that is a number."""
        tethers = tethers_of(style, size, area)
        return [(scale * low - before, scale * high + behind) for low, before, high, behind in tethers]

    def test_how_far_off_the_area_a_box_may_be(self):
        area = (-4, 3, 9, 3)
        for scale, size, slack in itertools.product((1, 2, 7), ((1, 1), (5, 4), (8, 9)), (0, 1, 6)):
            for axis, hold in itertools.product((0, 1), HOLDS):
                style = with_parts(SIDE, hold=hold, slack=slack)
                first, last = self.places(style, size, area, scale)[axis]
                low, high = scale * area[axis], scale * area[axis + 2]
                if hold == "free":
                    gaps = (low - (first + size[axis]), last - high)
                elif hold == ("left", "over")[axis]:
                    gaps = (low - (first + size[axis]), last + size[axis] - low + slack)
                elif hold == ("right", "under")[axis]:
                    gaps = (high - first + slack, last - high)
                else:
                    gaps = (low - (first + size[axis] // 2), last + size[axis] // 2 - high)
                self.assertEqual(gaps, (slack, slack))

    def test_names_are_of_size_and_tethers(self):
        area = (1, 2, 30, 40)
        for hold, text in itertools.product(HOLDS, TEXTS[:30]):
            style = with_parts(PLAIN, hold=hold)
            width, height = size_of(style, text)
            across, down = tethers_of(style, (width, height), area)
            self.told((width, height, across, down), name_of, style, text, area)
        self.told((6, 4, (14, 0, 14, 3), (20, 5, 21, 1)), name_of, SIDE, "top", (10, 20, 14, 21))
        self.told((1, 6, (0, 2, 0, 2), (0, 5, 0, -1)), name_of, PLAIN, "", (0, 0, 0, 0))

    def test_names_are_names(self):
        for style, text in itertools.product(BREAKERS, TEXTS[:20]):
            for hold in HOLDS:
                width, height, across, down = name_of(with_parts(style, hold=hold), text, (-5, -6, 7, 8))
                self.assertGreaterEqual(min(width, height), 1)
                for low, before, high, behind in (across, down):
                    self.assertLessEqual(low, high)
                    self.assertGreaterEqual(before + behind, 0)


class TestRanking(Calls):
    def test_the_greatest_weight_first_then_the_least_place(self):
        styles = tuple(with_parts(SIDE, weight=weight) for weight in (0, -5, 7, 0, 10 ** 9))
        self.told((4, 2, 0, 3, 1), ranking_of, styles, (0, 1, 2, 3, 4))
        self.told((0, 3, 1, 2, 4), ranking_of, styles, (4, 0, 3, 4, 1))
        self.told((0, 1, 2), ranking_of, styles, (1, 1, 1))
        self.told((1, 3, 0, 2), ranking_of, (PLAIN, SIDE), (0, 1, 0, 1))

    def test_none_one_and_many(self):
        self.told((), ranking_of, (PLAIN,), ())
        self.told((0,), ranking_of, (PLAIN,), (0,))
        self.told(tuple(range(300)), ranking_of, (PLAIN, PLAIN), (0, 1, 1) * 100)
