"""The interface: names, arguments, and the file in which each is defined."""

import importlib
import inspect
import unittest

INTERFACE = {
    "errors": "NoPlace(place), BadText(line), CanNot(), TooMuch(), Unfit()",
    "fractions": "is_fraction(thing), is_scale(thing), fraction(top, below), plus(one, other), "
                 "minus(one, other), times(one, other), over(one, other), is_less(one, other), "
                 "greatest(many), least(many), straight(low, high, scale, first, second)",
    "styles": "is_style(thing), is_styles(thing), width_of(style, line), ladder(style, text), "
              "lines_of(style, text), size_of(style, text), tethers_of(style, size, area), "
              "name_of(style, text, area), ranking_of(styles, classes)",
    "pages": "is_way(thing), is_area(thing), is_feature(thing), is_page(thing), way_length(way), "
             "spot_at(way, far), piece_of(way, first, last), turned_back(way), plain_way(way), "
             "nearest_on(way, spot), inside(way, area), tie_of(feature), page_frame(page), "
             "page_cut(page, area), pages_joined(page, other), page_moved(page, across, down), "
             "page_spread(page, many)",
    "maps": "is_tether(thing), is_name(thing), is_map(thing), map_of(page, styles), part_of(chart, lot), "
            "joined(chart, other), turned(chart), sides_turned(sides), place_turned(chart, name, place), "
            "map_moved(chart, across, down), spread(chart, many), sized(chart, many), "
            "stretch_at(chart, name, axis, scale), lets(chart, name, scale, place), "
            "box_at(chart, name, place), do_cover(chart, name, place, other, there)",
    "sides": "is_sides(chart, thing), ahead(chart, axis, one, other), order_of(chart, axis), "
             "side_of(sides, one, other), stands_left(chart, sides, one, other), "
             "stands_above(chart, sides, one, other), bans(sides), pair_number(chart, axis, one, other), "
             "by_rule(chart), all_beside(chart), with_side(sides, one, other, side), "
             "part_sides(sides, lot), is_row(sides, axis, lot), in_row(chart, sides, axis, lot)",
    "chains": "is_chain(chart, sides, thing), length_of(chart, chain), need_of(chart, chain), "
              "way_of(chart, chain), number_of(chart, chain), longest(chart, sides, lot, axis), "
              "chain_between(chart, sides, lot, axis, one, other), greatest_chain(chart, sides, lot), "
              "through(chart, sides, lot, name)",
    "stands": "coming(chart, sides, lot), can_stand(chart, sides, lot, scale), "
              "why_not(chart, sides, lot, scale), is_why_not(chart, sides, lot, scale, thing), "
              "standing(chart, sides, lot, scale), least_standing(chart, sides, lot, scale), "
              "greatest_standing(chart, sides, lot, scale), "
              "is_standing(chart, sides, lot, scale, thing)",
    "outlines": "outline(chart, sides, lot, name, axis), ceiling(chart, sides, lot, name, axis), "
                "is_outline(chart, sides, lot, name, axis, thing), "
                "least_place(chart, sides, lot, name, axis, scale), "
                "greatest_place(chart, sides, lot, name, axis, scale), "
                "pusher_at(chart, sides, lot, name, axis, scale), "
                "pushed_by(chart, sides, lot, axis, scale), "
                "push_chain(chart, sides, lot, name, axis, scale), "
                "is_push_chain(chart, sides, lot, name, axis, scale, thing)",
    "room": "room_at(chart, sides, lot, name, axis, scale), "
            "room_from(chart, sides, lot, name, axis, room), "
            "room_reason(chart, sides, lot, name, axis, room), "
            "is_room_reason(chart, sides, lot, name, axis, room, thing), "
            "reach(chart, sides, lot, axis, homes, scale), "
            "reach_cause(chart, sides, lot, axis, homes, scale), "
            "is_reach_cause(chart, sides, lot, axis, homes, scale, thing), "
            "reach_range(chart, sides, lot, axis, homes, most), "
            "nearest_places(chart, sides, lot, axis, homes, scale)",
    "books": "is_ranking(chart, thing), is_book(chart, thing), book_of(chart, sides, ranking), "
             "is_steady(chart, sides, ranking, thing), comes_at(chart, sides, ranking, name), "
             "reason(chart, sides, ranking, name), "
             "is_reason(chart, sides, ranking, name, thing), shown(book, scale), "
             "arrivals(book), lots_shown(book), keeps(chart, sides, book), "
             "fall(chart, sides, book), is_fall(chart, sides, book, thing), "
             "unlike_at(one, other), is_sooner(ranking, one, other)",
    "ranks": "by_class(chart, classes), by_size(chart), rank_of(ranking, name), "
             "raised(ranking, name, rank), exchanged(ranking, rank), "
             "ranked_first(ranking, lot), by_rank(chart, sides, ranking, name), "
             "rank_for(chart, sides, ranking, name, scale), freed(chart, sides, ranking, name), "
             "held_by(chart, sides, ranking, name), order_matters(chart, sides, ranking, rank), "
             "ranking_for(chart, sides, book), grounded(chart, sides, book), "
             "is_of(chart, sides, ranking, book)",
    "glides": "is_glide(chart, sides, book, thing), events(book, first, last), "
              "fall_of(chart, sides, book, pairs), glide(chart, sides, book, first, last), "
              "standing_at(book, glide, scale), place_at(book, glide, name, scale), "
              "slide_of(chart, book, glide), slidest(chart, book, glide), "
              "stopped(book, glide, scale), straightened(book, glide)",
    "slides": "least_slide(chart, sides, book, first, last), "
              "can_slide(chart, sides, book, first, last, slide), "
              "glide_within(chart, sides, book, first, last, slide), "
              "ring_above(chart, sides, book, first, last, slide), "
              "slowest(chart, sides, book, first, last), ring(chart, sides, book, first, last), "
              "is_ring(chart, sides, book, first, last, thing), "
              "ratio_of(chart, book, first, last, ring)",
    "changes": "is_change(thing), changed(chart, sides, ranking, change), "
               "back_from(chart, sides, ranking, change), all_changed(chart, sides, ranking, changes), "
               "touched(chart, sides, ranking, change), sooner(chart, sides, ranking, change), "
               "later(chart, sides, ranking, change), safe_by_rank(chart, sides, ranking, change), "
               "first_touched(chart, sides, ranking, change), "
               "cause(chart, sides, ranking, change, name), "
               "is_cause(chart, sides, ranking, change, name, thing)",
    "most": "most_at(chart, sides, lot, scale), is_most(chart, sides, lot, scale, thing), "
            "all_most(chart, sides, lot, scale), cases(chart, sides, lot, scale, many), "
            "is_cases(chart, sides, lot, scale, many, thing), steps(chart, sides, lot), "
            "lag(chart, sides, ranking, scale), row_ends(chart, sides, axis, lot, scale), "
            "row_most(chart, sides, axis, lot, scale), best_sides(chart, lot), "
            "is_best_sides(chart, lot, thing)",
    "views": "is_view(thing), window(view, scale), seen(chart, lot, standing, view, scale), "
             "cut_at(chart, lot, standing, view, scale, name), "
             "picture(chart, lot, standing, view, scale), "
             "least_view(chart, lot, standing, scale, p, q), tiles_under(chart, name, place, size), "
             "by_tiles(chart, lot, standing, size), seen_spans(chart, book, glide, view, name)",
    "report": "comings(chart, sides, ranking), counts(chart, sides, ranking, classes, scale), "
              "share(chart, sides, ranking, scale), first_with(chart, sides, ranking, lot, many), "
              "why(chart, sides, ranking, name), is_why(chart, sides, ranking, name, thing), "
              "compared(chart, sides, ranking, other), report(chart, sides, ranking, classes)",
    "texts": "page_told(page), styles_told(styles), map_told(chart), sides_told(sides), "
             "ranking_told(ranking), book_told(book), glide_told(glide), read_page(text), "
             "read_styles(text), read_map(text), read_sides(text), read_ranking(text), "
             "read_book(text), read_glide(text)",
    "judge": "is_claim(thing), is_so(claim), paper(claim), is_paper_for(claim, thing), "
             "is_paper_against(claim, thing), verdicts(claims, things), comes_of(claim, claims), "
             "first_false(claims)",
    "desk": "desk(text), is_request(thing)",
}


def listed(row):
    """The pairs of a name and its arguments."""
    pairs = []
    for word in row.rstrip(")").split("), "):
        name, _, inner = word.partition("(")
        pairs.append((name, inner.split(", ") if inner else []))
    return pairs


class TestInterface(unittest.TestCase):
    def test_names_arguments_and_files(self):
        for module, row in INTERFACE.items():
            file = importlib.import_module("glidenames." + module)
            for name, arguments in listed(row):
                with self.subTest(module=module, name=name):
                    own = getattr(file, name)
                    self.assertEqual(own.__module__, "glidenames." + module)
                    if module != "errors":
                        self.assertTrue(inspect.isfunction(own))
                        kinds = inspect.signature(own).parameters.values()
                        self.assertEqual([kind.name for kind in kinds], arguments)
                        for kind in kinds:
                            self.assertEqual(kind.kind, kind.POSITIONAL_OR_KEYWORD)
                            self.assertIs(kind.default, kind.empty)
