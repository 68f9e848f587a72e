"""The errors [24]: what each is directly under, what it keeps [2]."""

import unittest

from glidenames import errors
from glidenames.errors import BadText, CanNot, NoPlace, TooMuch, Unfit


class TestErrors(unittest.TestCase):
    def test_what_each_is_directly_under(self):
        self.assertEqual(NoPlace.__bases__, (LookupError,))
        for error in (BadText, CanNot, TooMuch, Unfit):
            self.assertEqual(error.__bases__, (ValueError,))

    def test_no_place_keeps_its_place(self):
        for place in (0, 3, -7, 10 ** 30):
            self.assertEqual(NoPlace(place).place, place)
            self.assertEqual(NoPlace(place=place).place, place)
            self.assertEqual(vars(NoPlace(place)), {"place": place})

    def test_bad_text_keeps_its_line(self):
        for line in (1, 2, 10 ** 6):
            self.assertEqual(BadText(line).line, line)
            self.assertEqual(BadText(line=line).line, line)
            self.assertEqual(vars(BadText(line)), {"line": line})

    def test_the_others_keep_nothing(self):
        for error in (CanNot, TooMuch, Unfit):
            self.assertEqual(vars(error()), {})

    def test_the_value_in_brackets_must_be_there(self):
        for error in (NoPlace, BadText):
            self.assertRaises(TypeError, error)
            self.assertRaises(TypeError, error, 1, 2)

    def test_each_is_raised_and_caught_by_its_own_name(self):
        made = (NoPlace(3), BadText(2), CanNot(), TooMuch(), Unfit())
        for error in made:
            for other in made:
                self.assertEqual(isinstance(error, other.__class__), error is other)
            with self.assertRaises(error.__class__) as caught:
                raise error
            self.assertIs(caught.exception, error)

    def test_there_are_no_others(self):
        own = [name for name in vars(errors) if not name.startswith("_")]
        self.assertEqual(sorted(own), ["BadText", "CanNot", "NoPlace", "TooMuch", "Unfit"])
