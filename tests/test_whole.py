"""The whole program [1]: from texts to the judge, each answer with its paper; and what holds for all values drawn."""

import fractions
import itertools
import random

from glidenames.books import arrivals, book_of, fall, is_fall, is_reason, is_steady, keeps, lots_shown, reason, shown
from glidenames.changes import cause, is_cause, touched
from glidenames.desk import desk
from glidenames.errors import CanNot
from glidenames.fractions import is_less, straight
from glidenames.glides import glide, is_glide, place_at, slide_of, standing_at
from glidenames.judge import first_false, is_so, paper, verdicts
from glidenames.maps import do_cover, lets, map_of, map_moved, spread
from glidenames.most import cases, is_cases, is_most, most_at
from glidenames.outlines import least_place, outline
from glidenames.pages import is_page, page_moved, page_spread
from glidenames.report import comings, report
from glidenames.sides import by_rule
from glidenames.slides import is_ring, least_slide, ratio_of, ring, slowest
from glidenames.stands import can_stand, coming, is_standing, is_why_not, least_standing, why_not
from glidenames.styles import ladder, lines_of, name_of, ranking_of, size_of, tethers_of, width_of
from glidenames.texts import (
    book_told, glide_told, map_told, page_told, ranking_told, read_book, read_glide, read_map, read_page, read_ranking,
    read_sides, read_styles, sides_told, styles_told,
)
from glidenames.views import by_tiles, least_view, picture, seen, seen_spans
from tests.drawn import HOLDS, drawn_area, drawn_change, drawn_page, drawn_row, drawn_styles
from tests.kit import Calls
from tests.reckoned import EVER, numbers_about, pair, worth
from tests.test_books import some_ranked
from tests.test_desk import within
from tests.test_glides import drawn_standing

SIGNS = "abim ~.x"


def drawn_text(picked):
    """A text of at most 60 signs, with blanks wherever."""
    return "".join(picked.choices(SIGNS + " ", k=picked.randrange(30)))


def some_zooms(seed, many):
    """Quintuples of a MAP of a drawn PAGE, SIDES, a RANKING, its steady BOOK, and a random source."""
    picked = random.Random(seed)
    for _ in range(many):
        page, styles = drawn_page(picked, picked.randrange(1, 7)), drawn_styles(picked)
        chart = map_of(page, styles)
        sides, ranking = by_rule(chart), ranking_of(styles, [feature[0] for feature in page])
        yield chart, sides, ranking, book_of(chart, sides, ranking), picked


class TestFromTextsToTheJudge(Calls):
    def test_each_text_is_read_again(self):
        picked = random.Random(281)
        for _ in range(20):
            page, styles = read_page(page_told(drawn_page(picked, 6))), read_styles(styles_told(drawn_styles(picked)))
            chart = read_map(map_told(map_of(page, styles)))
            sides = read_sides(sides_told(by_rule(chart)))
            ranking = read_ranking(ranking_told(ranking_of(styles, tuple([feature[0] for feature in page]))))
            book = read_book(book_told(book_of(chart, sides, ranking)))
            self.judged(is_page, [page], ())
            self.judged(is_steady, [book], (), chart, sides, ranking)
            first, last = (1, 7), (9, 1)
            way = read_glide(glide_told(slowest(chart, sides, book, first, last)))
            self.judged(is_glide, [way], (), chart, sides, book)
            claims = [("steady", chart, sides, ranking, book), ("keeps", chart, sides, book), ("slides", chart, sides, book, first, last, slide_of(chart, book, way))]
            self.assertEqual(verdicts(claims, [(), (), way]), ["for"] * 3)
            self.assertIsNone(first_false(claims))
            # The page moved and spread: the same names, at once or so much sooner.
            moved = map_of(page_moved(page, 5, -7), styles)
            self.assertEqual(book_of(moved, sides, ranking), book)
            wide = book_of(map_of(page_spread(page, 3), styles), sides, ranking)
            self.assertEqual(wide, tuple([None if own is None else pair(worth(own) / 3) for own in book]))
            self.assertEqual((moved, map_of(page_spread(page, 3), styles)), (map_moved(chart, 5, -7), spread(chart, 3)))

    def test_each_answer_has_its_paper(self):
        words = []
        for chart, sides, ranking, book, picked in some_zooms(282, 25):
            every, scale = tuple(range(len(chart))), picked.choice(((1, 3), (1, 1), (9, 2)))
            if can_stand(chart, sides, every, scale):
                self.assertIs(is_standing(chart, sides, every, scale, least_standing(chart, sides, every, scale)), True)
            else:
                self.assertIs(is_why_not(chart, sides, every, scale, why_not(chart, sides, every, scale)), True)
            most = most_at(chart, sides, every, scale)
            self.assertIs(is_most(chart, sides, every, scale, most), True)
            self.assertIs(is_cases(chart, sides, every, scale, len(most), cases(chart, sides, every, scale, len(most))), True)
            claims = [("stands", chart, sides, every, scale), ("keeps", chart, sides, ((0, 1),) * len(chart)), ("alike", chart, sides, ranking, drawn_row(picked, len(chart)))]
            claims += [("comes", chart, sides, ranking, name, book[name]) for name in every] + [("comes", chart, sides, ranking, name, (7, 3)) for name in every]
            claims += [("slides", chart, sides, book, scale, (20, 1), slide) for slide in ((0, 1), (3, 1))]
            for claim, word in zip(claims, verdicts(claims, [paper(claim) for claim in claims])):
                self.assertEqual(word, "for" if is_so(claim) else "against")
                words.append((claim[0], word))
            for name in every:
                if book[name] != (0, 1):
                    self.assertIs(is_reason(chart, sides, ranking, name, reason(chart, sides, ranking, name)), True)
            if not keeps(chart, sides, ((0, 1),) * len(chart)):
                self.assertIs(is_fall(chart, sides, ((0, 1),) * len(chart), fall(chart, sides, ((0, 1),) * len(chart))), True)
            change = drawn_change(picked, chart, picked.choice(("tether", "size", "rank", "more")))
            for name in touched(chart, sides, ranking, change):
                self.assertIs(is_cause(chart, sides, ranking, change, name, cause(chart, sides, ranking, change, name)), True)
        self.assertGreater(len({*words}), 7)

    def test_the_desk_tells_the_same(self):
        for chart, sides, ranking, book, _ in some_zooms(283, 15):
            text = f"map\n{within(map_told(chart))}\nranking\n{within(ranking_told(ranking))}\n"
            replies = desk(text + "shown\n" + "\n".join([f"comes {name}" for name in range(len(chart))]))
            self.assertEqual(replies[2], " ".join([str(name) for name in shown(book, (1, 1))]))
            self.assertEqual([] if None in book else replies[3:], [] if None in book else [str(worth(own)) for own in book])
            lines = report(chart, sides, ranking, (0,) * len(chart)).splitlines()
            self.assertEqual(len(lines), len(comings(chart, sides, ranking)) + 1)


class TestZoom(Calls):
    def test_whatever_is_told_at_arrivals_never_covers(self):
        # [1] (c): STANDINGS at ARRIVALS alone, straight ways between; box by box, TETHER by TETHER.
        for chart, sides, ranking, book, picked in some_zooms(284, 20):
            scales = [(1, 9), *[own for own in arrivals(book) if is_less((1, 9), own)], (10 ** 4, 1)]
            way = tuple([(scale, drawn_standing(picked, chart, sides, shown(book, scale), scale)) for scale in scales])
            for one, other in zip(scales, scales[1:]):
                for part in ((0, 1), (1, 2), (2, 7), (99, 100)):
                    scale = straight((0, 1), (1, 1), part, one, other)
                    lot, standing = shown(book, scale), standing_at(book, way, scale)
                    for name, place in zip(lot, standing):
                        self.assertIs(lets(chart, name, scale, place), True)
                    for (first, place), (second, there) in itertools.combinations(list(zip(lot, standing)), 2):
                        self.assertIs(do_cover(chart, first, place, second, there), False)
            # Nobody jumps: just behind a SCALE all stand just beside where they stood.
            for scale, standing in way[1:-1]:
                for near in (-1, 1):
                    there = pair(worth(scale) + near * fractions.Fraction(1, 10 ** 12))
                    for name in shown(book, pair(min(worth(scale), worth(there)))):
                        here = standing[shown(book, scale).index(name)]
                        for axis in (0, 1):
                            self.assertLess(abs(worth(place_at(book, way, name, there)[axis]) - worth(here[axis])), fractions.Fraction(1, 10 ** 4))

    def test_the_least_slide_is_the_greatest_ratio(self):
        above = 0
        for chart, sides, ranking, book, _ in some_zooms(285, 30):
            call = (chart, sides, book, (1, 5), (30, 1))
            slide, way = least_slide(*call), slowest(*call)
            self.assertEqual(slide_of(chart, book, way), slide)
            self.assertLessEqual(worth(slide), worth(slide_of(chart, book, glide(*call))))
            if slide == (0, 1):
                self.assertRaises(CanNot, ring, *call)
            else:
                above += 1
                self.assertIs(is_ring(*call, ring(*call)), True)
                self.assertEqual(ratio_of(chart, book, *call[3:], ring(*call)), slide)
        self.assertGreater(above, 3)

    def test_lots_stand_from_one_number_on(self):
        # [1] (a): at just the SCALES from one number on, or at none; the least standing by few straight pieces.
        for chart, sides, _, book, picked in some_zooms(286, 15):
            for _, lot in lots_shown(book):
                first = coming(chart, sides, lot)
                for scale in numbers_about([EVER if first is None else worth(first)]):
                    self.assertIs(can_stand(chart, sides, lot, pair(scale)), first is not None and scale >= worth(first))
                for name in lot:
                    for axis in (0, 1):
                        self.assertLessEqual(len(outline(chart, sides, lot, name, axis)), len(lot))
                if lot and first is not None:
                    scale = pair(worth(first) + 1)
                    places = [tuple([least_place(chart, sides, lot, name, axis, scale) for axis in (0, 1)]) for name in lot]
                    self.assertEqual(tuple(places), least_standing(chart, sides, lot, scale))

    def test_one_steady_book(self):
        # [1] (b): with one number of it another one it is the steady BOOK no more.
        for chart, sides, ranking, comings_of in some_ranked(287, 25):
            book = book_of(chart, sides, ranking)
            numbers = [pair(own) for own in {0, EVER, fractions.Fraction(7, 5), *comings_of.values()}]
            for name, own in itertools.product(range(len(chart)), numbers):
                other = book[:name] + (own,) + book[name + 1:]
                self.assertIs(is_steady(chart, sides, ranking, other), other == book)

    def test_what_windows_show(self):
        for chart, sides, ranking, book, _ in some_zooms(288, 15):
            way = glide(chart, sides, book, (1, 2), (25, 1))
            scale, standing = way[-1]
            lot = shown(book, scale)
            view = least_view(chart, lot, standing, scale, 0, 0)
            self.assertEqual(seen(chart, lot, standing, view, scale), lot)
            self.assertEqual(sorted({name for _, names in by_tiles(chart, lot, standing, 50) for name in names}), [*lot])
            if view[2] * view[3] <= 20000:
                signs = {sign for row in picture(chart, lot, standing, view, scale) for sign in row}
                self.assertLessEqual(signs, {".", *map(str, lot)})
            for name in range(len(chart)):
                spans = seen_spans(chart, book, way, (0, 0, 40, 40), name)
                self.assertTrue(all([name in shown(book, first) for first, _ in spans]))


class TestStyles(Calls):
    def test_ladders(self):
        # [5]: it never rises; it ends with the widest word, 0 without words.
        picked = random.Random(289)
        for _ in range(150):
            (style,), text = drawn_styles(picked, 1), drawn_text(picked)
            words = text.split()
            rungs = ladder(style, text)
            self.assertEqual(list(rungs), sorted(rungs, reverse=True))
            self.assertEqual(rungs[-1], max([width_of(style, word) for word in words], default=0))
            self.assertEqual(len(rungs), max(1, len(words)))
            lines = lines_of(style, text)
            self.assertEqual(" ".join(lines).split(), words)
            self.assertTrue(all([width_of(style, line) <= style[5] or " " not in line for line in lines]))
            self.assertEqual(max([width_of(style, line) for line in lines]), rungs[len(lines) - 1])

    def test_how_far_off_the_area(self):
        # [5]: by "free" the box, by "middle" its middle, at no SCALE more than slack off the AREA.
        picked = random.Random(290)
        for _ in range(200):
            (style,), text, area = drawn_styles(picked, 1), drawn_text(picked), drawn_area(picked)
            style = style[:6] + (picked.choice(HOLDS[:2]),) + style[7:]
            size, scale = size_of(style, text), fractions.Fraction(picked.randrange(1, 50), picked.randrange(1, 9))
            self.assertEqual(name_of(style, text, area), (*size, *tethers_of(style, size, area)))
            for axis, (low, ahead, high, behind) in enumerate(tethers_of(style, size, area)):
                first, last = scale * low - ahead, scale * high + behind
                self.assertLessEqual(first, last)
                for place in (first, last, (first + last) / 2, first + (last - first) / 7):
                    ends = (place, place + size[axis]) if style[6] == "free" else (place + size[axis] // 2,) * 2
                    off = max(scale * area[axis] - ends[1], ends[0] - scale * area[axis + 2], 0)
                    self.assertLessEqual(off, style[7])
