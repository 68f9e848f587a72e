"""What several tests need: exact comparison, lists for tuples, things of all kinds."""

import inspect
import unittest


def as_lists(value):
    """value with a list for each tuple, at any depth."""
    if isinstance(value, (tuple, list)):
        return [as_lists(part) for part in value]
    return value


def mixed(value, turn=0):
    """value with lists and tuples by turns, from depth to depth and from part to part."""
    if isinstance(value, (tuple, list)):
        parts = [mixed(part, turn + place + 1) for place, part in enumerate(value)]
        return tuple(parts) if turn % 2 else parts
    return value


def nested(many, kind):
    """A one, so many levels deep in tuples or lists."""
    value = 1
    for _ in range(many):
        value = kind((value,))
    return value


# Things of every kind that may be asked about; none of them is a number.
NO_NUMBERS = (
    True, False, None, "", "1", "a", "words here", (), (1,), (1, 1), (1, 2, 3), ((1, 1),),
    [], [1], [1, 1], [[1, 1]], ([1], [2]), (True, 1), (None,), ("a", 1), (("a", 1),),
    nested(100, tuple), nested(100, list), tuple(range(1000)), list(range(1000)),
    (0,) * 4, (1,) * 9, "a" * 1000,
)
# Numbers of every kind.
NUMBERS = (0, 1, -1, 2, 100, 10 ** 6, 10 ** 12, -10 ** 12, 10 ** 400, -10 ** 400)
THINGS = NO_NUMBERS + NUMBERS


# The forms in which values are handed in.
FORMS = (lambda value: value, as_lists, mixed)


def put(values, place, part):
    """values, a tuple, with this part at this place."""
    return values[:place] + (part,) + values[place + 1:]


def unlike(things, values):
    """Those of things that are written unlike each of values: (True, 1) equals (1, 1)."""
    written = [repr(value) for value in values]
    return [thing for thing in things if repr(thing) not in written]


class Calls(unittest.TestCase):
    """Calls in all the ways in which a function may be called."""

    def same(self, one, other):
        """Fails unless both are equal and of the same kinds at every depth."""
        self.assertEqual(repr(one), repr(other))

    def each_way(self, function, values):
        """Calls ready to be made: by position and by name, tuples, lists and both; then looks
        at whether what was handed in is as it was."""
        names = list(inspect.signature(function).parameters)
        self.assertEqual(len(names), len(values))
        for form in FORMS:
            handed = [form(value) for value in values]
            before = repr(handed)
            yield lambda: function(*handed)
            yield lambda: function(*handed)
            yield lambda: function(**dict(zip(names, handed)))
            self.assertEqual(repr(handed), before)

    def told(self, expected, function, *values):
        """Fails unless function returns just what is expected, called in whatever way."""
        for call in self.each_way(function, values):
            self.same(call(), expected)

    def refused(self, error, kept, function, *values):
        """Fails unless function raises just this error, with what it keeps."""
        for call in self.each_way(function, values):
            with self.assertRaises(error) as caught:
                call()
            self.assertIs(caught.exception.__class__, error)
            self.same(vars(caught.exception), kept)

    def judged(self, function, yes, no, *others):
        """Fails unless function, of the others and a thing, returns True of each of yes, False of
        each of no. The others are handed in in each form, the thing as it is."""
        names = list(inspect.signature(function).parameters)
        self.assertEqual(names[-1], "thing")
        self.assertEqual(len(names), len(others) + 1)
        for form in FORMS[:3 if others else 1]:
            handed = [form(value) for value in others]
            for expected, things in ((True, yes), (False, no)):
                for thing in things:
                    before = repr((handed, thing))
                    with self.subTest(others=handed, thing=repr(thing)[:200]):
                        self.assertIs(function(*handed, thing), expected)
                        self.assertIs(function(**dict(zip(names, [*handed, thing]))), expected)
                        self.assertEqual(repr((handed, thing)), before)
