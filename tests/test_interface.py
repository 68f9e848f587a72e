"""The interface: names, arguments, and the file in which each is defined."""

import importlib
import inspect
import unittest

INTERFACE = {
    "errors": "NoPlace(place), BadText(line), CanNot(), TooMuch(), Unfit()",
    "fractions": "is_fraction(thing), is_scale(thing), fraction(top, below), plus(one, other), "
                 "minus(one, other), times(one, other), over(one, other), is_less(one, other), "
                 "greatest(many), least(many), straight(low, high, scale, first, second)",
    "styles": "is_style(thing), is_styles(thing), width_of(style, line), ladder(style, text), "
              "lines_of(style, text), size_of(style, text), tethers_of(style, size, area), "
              "name_of(style, text, area), ranking_of(styles, classes)",
}


def listed(row):
    """The pairs of a name and its arguments."""
    pairs = []
    for word in row.rstrip(")").split("), "):
        name, _, inner = word.partition("(")
        pairs.append((name, inner.split(", ") if inner else []))
    return pairs


class TestInterface(unittest.TestCase):
    def test_names_arguments_and_files(self):
        for module, row in INTERFACE.items():
            file = importlib.import_module("glidenames." + module)
            for name, arguments in listed(row):
                with self.subTest(module=module, name=name):
                    own = getattr(file, name)
                    self.assertEqual(own.__module__, "glidenames." + module)
                    if module != "errors":
                        self.assertTrue(inspect.isfunction(own))
                        kinds = inspect.signature(own).parameters.values()
                        self.assertEqual([kind.name for kind in kinds], arguments)
                        for kind in kinds:
                            self.assertEqual(kind.kind, kind.POSITIONAL_OR_KEYWORD)
                            self.assertIs(kind.default, kind.empty)
