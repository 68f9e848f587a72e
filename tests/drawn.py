"""Values drawn for the tests: small numbers, so that equal ones and ends meet often; and the MAPS
and SIDES of the examples."""

import random

# Three NAMES of width 4, each 2 off its place at the most, side by side.
STILL = (0, 0, 0, 0)
ROW = ((4, 1, (0, 2, 0, 2), STILL), (4, 1, (3, 2, 3, 2), STILL), (4, 1, (6, 2, 6, 2), STILL))
BESIDE = ((), (0,), (0, 0))
# Four NAMES and the SIDES that they have by rule, with a BAN.
TOWN = (
    (6, 2, (0, 0, 10, 0), (0, 0, 4, 0)), (4, 2, (9, 0, 9, 0), (2, 0, 2, 0)),
    (4, 2, (3, 1, 3, 1), (1, 1, 1, 1)), (4, 2, (3, 0, 3, 0), (1, 0, 1, 0)),
)
RULE = ((), (0,), (1, 0), (0, 0, 2))

TEXTS = ("Ford", "Old Road", "a", "~", "upper mill on sea", "i" * 60, "m m m m", "x-1 (2)")
HOLDS = ("middle", "free", "left", "right", "over", "under")


def drawn_way(picked, corners):
    """A WAY of so many corners that goes on, turns and turns back."""
    way = [(picked.randrange(-6, 7), picked.randrange(-6, 7))]
    while len(way) < corners:
        x, y = way[-1]
        far = picked.choice((-7, -3, -2, -1, 1, 2, 3, 6))
        way.append(picked.choice(((x + far, y), (x, y + far))))
    return tuple(way)


def drawn_area(picked):
    """An AREA, now and then of one SPOT or one row."""
    west, north = picked.randrange(-8, 8), picked.randrange(-8, 8)
    return (west, north, west + picked.choice((0, 0, 1, 4, 9)), north + picked.choice((0, 0, 1, 4, 9)))


def drawn_feature(picked, classes):
    """A FEATURE of one of so many CLASSES."""
    kind = picked.randrange(3)
    where = (picked.randrange(-9, 10), picked.randrange(-9, 10))
    if kind == 1:
        way = drawn_way(picked, picked.randrange(2, 7))
        length = sum([abs(x - u) + abs(y - v) for (x, y), (u, v) in zip(way, way[1:])])
        where = (way, *sorted(picked.choices(range(length + 1), k=2)))
    if kind == 2:
        where = drawn_area(picked)
    return (picked.randrange(classes), picked.choice(TEXTS), kind, where)


def drawn_page(picked, many, classes=3):
    """A PAGE of so many FEATURES."""
    return tuple([drawn_feature(picked, classes) for _ in range(many)])


def drawn_styles(picked, many=3):
    """STYLES, so many."""
    return tuple([
        (picked.randrange(1, 5), picked.choice(((), (("i", 1), ("m", 6)))), picked.randrange(3),
         picked.randrange(1, 9), picked.randrange(3), picked.choice((1, 20, 60)), picked.choice(HOLDS),
         picked.randrange(5), picked.randrange(-5, 6))
        for _ in range(many)
    ])


def drawn_tether(picked):
    """A TETHER, often without a stretch or with nothing to spare."""
    low, before = picked.randrange(-4, 7), picked.randrange(-3, 4)
    return (low, before, low + picked.choice((0, 0, 0, 1, 2, 5)), picked.choice((0, 0, 1, 2, 4)) - before)


def drawn_map(picked, many):
    """A MAP of so many NAMES."""
    return tuple([
        (picked.randrange(1, 7), picked.randrange(1, 4), drawn_tether(picked), drawn_tether(picked))
        for _ in range(many)
    ])


def drawn_sides(picked, many, told=(0, 0, 0, 1, 1, 1, 2)):
    """SIDES of so many NAMES."""
    return tuple([tuple(picked.choices(told, k=name)) for name in range(many)])


def drawn_lot(picked, many):
    """A LOT of so many NAMES that there are."""
    return tuple([name for name in range(many) if picked.randrange(4) > 0])


def some_maps(seed, many, most=5):
    """Triples of a MAP, SIDES and a LOT."""
    picked = random.Random(seed)
    for _ in range(many):
        names = picked.randrange(1, most + 1)
        yield drawn_map(picked, names), drawn_sides(picked, names), drawn_lot(picked, names)


def drawn_loose(picked, many):
    """A MAP of so many NAMES that have much to spare, mostly in one row, and its SIDES."""
    chart = []
    for _ in range(many):
        tethers = []
        for _ in range(2):
            low, before = picked.randrange(0, 5), picked.randrange(-4, 9)
            tethers.append((low, before, low + picked.choice((0, 1, 3)), picked.randrange(4, 14) - min(before, 0)))
        chart.append((picked.randrange(1, 7), picked.randrange(1, 4), *tethers))
    return tuple(chart), drawn_sides(picked, many, picked.choice(((0,), (1,), (0, 0, 0, 1))))


def some_loose(seed, many, most=5):
    """Triples of a MAP with much to spare, SIDES and the LOT of all."""
    picked = random.Random(seed)
    for _ in range(many):
        names = picked.randrange(1, most + 1)
        yield *drawn_loose(picked, names), tuple(range(names))


def drawn_row(picked, many):
    """All of so many NAMES in some order: a RANKING."""
    return tuple(picked.sample(range(many), many))


def drawn_change(picked, chart, word):
    """A CHANGE with this word that a MAP and its RANKING get."""
    many = len(chart)
    name = picked.randrange(many)
    new = drawn_map(picked, 1)[0]
    row = tuple(picked.choices((0, 0, 1, 1, 2), k=many))
    return {
        "tether": ("tether", name, picked.randrange(2), drawn_tether(picked)),
        "size": ("size", name, picked.randrange(1, 9), picked.randrange(1, 5)),
        "side": ("side", max(name - 1, 0), max(name, 1), picked.randrange(3)),
        "rank": ("rank", name, picked.randrange(many)),
        "less": ("less", name),
        "more": ("more", picked.randrange(many + 1), new, row, picked.randrange(many + 1)),
    }[word]


def some_changes(seed, many, most=4):
    """Quadruples of a MAP, SIDES, a RANKING and a CHANGE that they get, its words by turns."""
    picked = random.Random(seed)
    words = ("tether", "size", "side", "rank", "less", "more")
    for at in range(many):
        names = picked.randrange(2, most + 1)
        if at % 2:
            chart, sides = drawn_loose(picked, names)
        else:
            chart, sides = drawn_map(picked, names), drawn_sides(picked, names)
        yield chart, sides, drawn_row(picked, names), drawn_change(picked, chart, words[at % len(words)])
