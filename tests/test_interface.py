"""The interface: names, arguments, and the file in which each is defined."""

import importlib
import inspect
import unittest

INTERFACE = {
    "errors": "NoPlace(place), BadText(line), CanNot(), TooMuch(), Unfit()",
    "fractions": "is_fraction(thing), is_scale(thing), fraction(top, below), plus(one, other), "
                 "minus(one, other), times(one, other), over(one, other), is_less(one, other), "
                 "greatest(many), least(many), straight(low, high, scale, first, second)",
    "styles": "is_style(thing), is_styles(thing), width_of(style, line), ladder(style, text), "
              "lines_of(style, text), size_of(style, text), tethers_of(style, size, area), "
              "name_of(style, text, area), ranking_of(styles, classes)",
    "pages": "is_way(thing), is_area(thing), is_feature(thing), is_page(thing), way_length(way), "
             "spot_at(way, far), piece_of(way, first, last), turned_back(way), plain_way(way), "
             "nearest_on(way, spot), inside(way, area), tie_of(feature), page_frame(page), "
             "page_cut(page, area), pages_joined(page, other), page_moved(page, across, down), "
             "page_spread(page, many)",
    "maps": "is_tether(thing), is_name(thing), is_map(thing), map_of(page, styles), part_of(chart, lot), "
            "joined(chart, other), turned(chart), sides_turned(sides), place_turned(chart, name, place), "
            "map_moved(chart, across, down), spread(chart, many), sized(chart, many), "
            "stretch_at(chart, name, axis, scale), lets(chart, name, scale, place), "
            "box_at(chart, name, place), do_cover(chart, name, place, other, there)",
    "sides": "is_sides(chart, thing), ahead(chart, axis, one, other), order_of(chart, axis), "
             "side_of(sides, one, other), stands_left(chart, sides, one, other), "
             "stands_above(chart, sides, one, other), bans(sides), pair_number(chart, axis, one, other), "
             "by_rule(chart), all_beside(chart), with_side(sides, one, other, side), "
             "part_sides(sides, lot), is_row(sides, axis, lot), in_row(chart, sides, axis, lot)",
    "chains": "is_chain(chart, sides, thing), length_of(chart, chain), need_of(chart, chain), "
              "way_of(chart, chain), number_of(chart, chain), longest(chart, sides, lot, axis), "
              "chain_between(chart, sides, lot, axis, one, other), greatest_chain(chart, sides, lot), "
              "through(chart, sides, lot, name)",
}


def listed(row):
    """The pairs of a name and its arguments."""
    pairs = []
    for word in row.rstrip(")").split("), "):
        name, _, inner = word.partition("(")
        pairs.append((name, inner.split(", ") if inner else []))
    return pairs


class TestInterface(unittest.TestCase):
    def test_names_arguments_and_files(self):
        for module, row in INTERFACE.items():
            file = importlib.import_module("glidenames." + module)
            for name, arguments in listed(row):
                with self.subTest(module=module, name=name):
                    own = getattr(file, name)
                    self.assertEqual(own.__module__, "glidenames." + module)
                    if module != "errors":
                        self.assertTrue(inspect.isfunction(own))
                        kinds = inspect.signature(own).parameters.values()
                        self.assertEqual([kind.name for kind in kinds], arguments)
                        for kind in kinds:
                            self.assertEqual(kind.kind, kind.POSITIONAL_OR_KEYWORD)
                            self.assertIs(kind.default, kind.empty)
