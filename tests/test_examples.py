"""The examples of the document, each as it is printed there.

A file of examples stands for a section. A line `raises X(..)` tells an error
and what it keeps. Names go on from one section to the next.
"""

import importlib
import pathlib
import unittest

from glidenames import errors

EXAMPLES = pathlib.Path(__file__).parent / "examples"
MODULES = (
    "fractions", "styles", "pages", "maps", "sides", "chains", "stands", "outlines", "room", "books", "ranks",
    "glides", "slides", "changes", "most", "views", "report", "texts", "judge", "desk",
)


def parted(text):
    """The pairs of an example and the line that tells what comes of it, None for none."""
    pairs = []
    for line in text.splitlines():
        if line.startswith(">>> "):
            pairs.append((line[4:], None))
        else:
            pairs[-1] = (pairs[-1][0], line)
    return pairs


def worked(example, names):
    """What comes of an example, as it is printed."""
    try:
        return repr(eval(example, names))
    except (LookupError, ValueError) as error:
        kept = ", ".join([f"{name}={value!r}" for name, value in vars(error).items()])
        return f"raises {error.__class__.__name__}({kept})"


class TestExamples(unittest.TestCase):
    def test_each_example_is_as_printed(self):
        names = dict(vars(errors))
        for module in MODULES:
            names.update(vars(importlib.import_module("glidenames." + module)))
        files = sorted(EXAMPLES.glob("section_*.txt"))
        self.assertEqual(len(files), len(MODULES))
        for file in files:
            for example, printed in parted(file.read_text(encoding="utf-8")):
                with self.subTest(file=file.name, example=example):
                    if printed is None:
                        exec(example, names)
                    else:
                        self.assertEqual(worked(example, names), printed)
