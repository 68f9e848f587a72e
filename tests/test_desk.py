"""A desk [23]: rows of requests, beside a plain desk of the tests' own."""

import fractions
import random
import re

from glidenames.books import book_of, is_reason, reason
from glidenames.desk import desk, is_request
from glidenames.errors import BadText, CanNot, NoPlace, Unfit
from glidenames.slides import least_slide
from glidenames.sides import by_rule
from glidenames.stands import least_standing
from glidenames.texts import map_told, ranking_told, read_map, read_ranking, read_sides, sides_told
from tests.drawn import ROW, drawn_loose, drawn_map, drawn_row, drawn_sides
from tests.kit import THINGS, Calls
from tests.reckoned import EVER, all_comings, pair, shown, steady, worth

N = "(?:0|[1-9][0-9]{0,5})"
LINES = {
    "map": 0, "sides": 0, "ranking": 0, "side": 3, "raise": 1, "scale": 2, "zoom": 2, "undo": 0, "at": 0, "ranks": 0, "shown": 0, "next": 0,
    "comes": 1, "why": 1, "place": 1, "slide": 2,
}
WITH_TEXT = ("map", "sides", "ranking")


def within(text):
    """A text as it stands in a request: a blank ahead of each line, no line feed behind the last one."""
    return "\n".join([" " + line for line in text.split("\n")[:-1]])


def word_for(own):
    """A number as it is replied."""
    return "-" if own == EVER else str(own)


def parted(text):
    """The requests of a text, each a head and the lines of its text; or the line at which there is none."""
    requests, lines = [], text.split("\n")
    heads = [at for at, line in enumerate(lines) if not line.startswith(" ") or at == 0]
    for at, stop in zip(heads, heads[1:] + [len(lines)]):
        word = lines[at].split(" ")[0]
        right = word in LINES and re.fullmatch(word + f" {N}" * LINES.get(word, 0), lines[at])
        if not right or (word in WITH_TEXT) != (stop - at > 1):
            return at + 1
        requests.append((lines[at], lines[at + 1:stop]))
    return requests


class Plain:
    """A plain desk."""

    def __init__(self):
        self.held, self.past = self.new(ROW), []

    def new(self, chart):
        return chart, by_rule(chart), tuple(range(len(chart))), fractions.Fraction(1)

    def work(self, head, lines):
        word, *numbers = head.split(" ")
        numbers, text = [int(own) for own in numbers], "".join([line[1:] + "\n" for line in lines])
        try:
            if word == "undo":
                if not self.past:
                    raise CanNot()
                word, self.held = self.past.pop()
                return word
            told = getattr(self, "do_" + word)(*numbers, *([text] if word in WITH_TEXT else []))
        except (BadText, NoPlace, CanNot, Unfit) as error:
            return "refused " + error.__class__.__name__
        if isinstance(told, str):
            return told
        self.past.append((word, self.held))
        self.held = told
        return "done"

    def name(self, *names):
        for name in names:
            if name >= len(self.held[0]):
                raise NoPlace(name)

    def fit(self, fits):
        if not fits:
            raise Unfit()

    def book(self):
        return steady(*self.held[:3])

    def do_map(self, text):
        return self.new(read_map(text))

    def do_sides(self, text):
        sides = read_sides(text)
        self.fit(len(sides) == len(self.held[0]))
        return self.held[0], sides, *self.held[2:]

    def do_ranking(self, text):
        ranking = read_ranking(text)
        self.fit(len(ranking) == len(self.held[0]))
        return *self.held[:2], ranking, self.held[3]

    def do_side(self, one, other, side):
        self.name(one, other)
        self.fit(one != other and side < 3)
        rows = [list(row) for row in self.held[1]]
        rows[max(one, other)][min(one, other)] = side
        return self.held[0], tuple([tuple(row) for row in rows]), *self.held[2:]

    def do_raise(self, name):
        self.name(name)
        row = list(self.held[2])
        at = row.index(name)
        if at == 0:
            raise CanNot()
        row[at - 1], row[at] = row[at], row[at - 1]
        return *self.held[:2], tuple(row), self.held[3]

    def do_scale(self, top, below):
        self.fit(top and below)
        return *self.held[:3], fractions.Fraction(top, below)

    def do_zoom(self, top, below):
        self.fit(top and below)
        return *self.held[:3], self.held[3] * fractions.Fraction(top, below)

    def do_at(self):
        return str(self.held[3])

    def do_ranks(self):
        return " ".join(map(str, self.held[2]))

    def do_shown(self):
        return " ".join(map(str, shown(self.book(), self.held[3])))

    def do_next(self):
        return word_for(min([own for own in self.book().values() if own > self.held[3]], default=EVER))

    def do_comes(self, name):
        self.name(name)
        return word_for(self.book()[name])

    def do_why(self, name):
        own = reason(*self.held[:3], name)
        return "ban {} {}".format(*own) if isinstance(own[1], int) else " ".join(map(str, (own[0], *own[1])))

    def do_place(self, name):
        self.name(name)
        lot = shown(self.book(), self.held[3])
        if name not in lot:
            raise CanNot()
        place = least_standing(*self.held[:2], lot, pair(self.held[3]))[lot.index(name)]
        return " ".join([str(worth(own)) for own in place])

    def do_slide(self, top, below):
        self.fit(top and below)
        self.fit(fractions.Fraction(top, below) > self.held[3])
        chart, sides, ranking, scale = self.held
        return str(worth(least_slide(chart, sides, book_of(chart, sides, ranking), pair(scale), pair(fractions.Fraction(top, below)))))


def drawn_request(picked, many):
    """A request, of a MAP of about so many NAMES."""
    name, other = [str(picked.randrange(many + picked.choice((0, 0, 0, 1)))) for _ in range(2)]
    top, below = [str(picked.choice((0, 1, 1, 2, 3, 5, 8, 12, 999999)) if picked.randrange(8) == 0 else picked.randrange(1, 9)) for _ in range(2)]
    word = picked.choice([*LINES, "side", "raise", "raise", "scale", "scale", "undo", "undo", "comes", "comes", "why", "why", "place", "place", "slide", "slide"])
    if word == "map":
        many = picked.randrange(2, 5)
        chart = picked.choice((drawn_map(picked, many), drawn_loose(picked, many)[0], drawn_loose(picked, many)[0]))
        return "map\n" + within(map_told(chart)[:picked.choice((None, None, None, -3))] + "\n" * picked.randrange(2))
    if word == "sides":
        return "sides\n" + within(sides_told(drawn_sides(picked, many)))
    if word == "ranking":
        return "ranking\n" + within(ranking_told(drawn_row(picked, many)))
    words = {"side": [name, other, str(picked.randrange(4))], "scale": [top, below], "zoom": [top, below], "slide": [top, below]}
    return " ".join([word, *words.get(word, [name] * LINES[word])])


class TestDesk(Calls):
    def test_as_told(self):
        first = "shown\nranks\ncomes 2\nscale 1 2\nshown\nnext\nwhy 2\nplace 1\nraise 2\ncomes 1\nwhy 2\nplace 2\nzoom 6 3\nat\nslide 4 2\nundo\nundo\nranks"
        self.told(["0 1 2", "0 1 2", "2/3", "done", "0 1", "2/3", "0 0 1 2", "2 0", "done", "2/3", "refused CanNot", "2 0", "done", "1", "0", "zoom", "raise", "0 1 2"], desk, first)
        self.told([], desk, "")
        self.told(["1"], desk, "at")
        self.told(["1", "0 1 2", "0 1 2", "-"], desk, "at\nranks\nshown\nnext")

    def test_the_map_at_first(self):
        # All that can be asked of it, by each RANKING, at many SCALES, as of any side told anew.
        questions = "\n".join([f"{word} {name}" for word in ("comes", "why", "place") for name in range(3)] + ["at", "ranks", "shown", "next", "slide 40 1", "slide 1 1", "slide 3 4"])
        for raises, sides in ((), ()), ((1,), ()), ((2,), ()), ((2, 2), ()), ((1, 2), ()), ((2, 2, 1), ()), ((), ("0 1 1",)), ((2,), ("1 2 1",)), ((1,), ("0 2 2",)):
            for scale in ("1 9", "1 3", "2 3", "1 1", "7 2", "30 1"):
                text = "\n".join([f"raise {name}" for name in raises] + [f"side {own}" for own in sides] + ["scale " + scale, questions])
                plain = Plain()
                self.same(desk(text), [plain.work(*request) for request in parted(text)])

    def test_numbers_of_a_request(self):
        for word, reply in (("0", "0"), ("1", "0"), ("2", "2/3"), ("3", "refused NoPlace"), ("999999", "refused NoPlace")):
            self.told([reply], desk, "comes " + word)
        self.told(["done", "1/999999", "done", "999999"], desk, "scale 1 999999\nat\nscale 999999 1\nat")
        self.told(["done", "2/3", "done", "1/3"], desk, "scale 400000 600000\nat\nzoom 3 6\nat")
        for line in ("comes 1000000", "comes 00", "comes 01", "comes -1", "comes +1", "comes 1.", "comes", "comes ", "comes 1 2", "comes  1", "comes 1 ", "comes x", "comes \u0661",
                     "comes\t1", "Comes 1", "at 1", "at ", "ats", "side 0 1", "side 0 1 2 0", "raise", "scale 1", "scale 1 2 3", "scale 1/2", "zoom 1", "undo 1", "slide 1", "place", "why",
                     "ranks 0", "shown 1", "next 1", "map 1", "map", "sides", "ranking", "ranking 0 1 2", "done", "", " ", " at", "\u00e9", "at\r"):
            self.refused(BadText, {"line": 1}, desk, line or "\n")
            # With a blank ahead it is a text too much of the request ahead of it.
            self.refused(BadText, {"line": 2 if line.startswith(" ") else 3}, desk, "at\nshown\n" + line)
            self.refused(BadText, {"line": 1}, desk, line + "\nat\n\n" if line else "\n\n")
            self.judged(is_request, (), [line, "at\n" + line])

    def test_lines_and_texts(self):
        # A text too much or too little: the line at which the request begins; before all else.
        for text, line in (("at\n", 2), ("at\n\n", 2), ("\nat", 1), ("at\n\nshown", 2), ("at\n x", 1), ("shown\nat\n x\n y", 2), ("map\nat", 1), ("at\nmap", 2), ("map\n x\n", 3),
                           ("map\n x\n\n y", 3), ("sides\n x\nranking\nat", 3), ("undo\n ", 1), (" at", 1), (" map\n x", 1), ("scale 0 1\nraise 9\nat 0", 3), ("raise 0\n\n", 2)):
            self.refused(BadText, {"line": line}, desk, text)
            self.judged(is_request, (), [text])
        # Each line of a text without one blank alone, each ended.
        one = " name 2 1 0 0 0 0 0 0 0 0"
        self.told(["done", "0"], desk, f"map\n map\n{one}\nranks")
        for text in ("map\n map", f"map\n map\n {one}", f"map\n  map\n{one}", f"map\n map\n{one}\n ", f"map\n map\n{one} ", "map\n ", f"map\n maps\n{one}", "map\n map\n x", "map\n sides\n side"):
            self.told(["refused BadText", "0 1 2"], desk, text + "\nranks")
            self.judged(is_request, [text], [text + "\n", "\n" + text, " " + text, text + "\nat"])

    def test_maps_sides_and_rankings(self):
        one = "map\n map\n name 2 1 0 0 0 0 0 0 0 0"
        two = one + "\n name 2 1 0 0 0 0 0 0 0 0"
        # SIDES by rule, the RANKING by number, the SCALE 1: whatever was held.
        self.told(["done", "done", "done", "1", "0 1", "-", "ban 0 1"], desk, f"scale 7 2\nraise 2\n{two}\nat\nranks\ncomes 1\nwhy 1")
        alike = "map\n map\n name 2 5 0 0 9 0 0 0 0 0\n name 2 5 0 0 9 0 0 0 0 0\n"
        self.told(["done", "2/9", "0 0 1", "done", "done", "-", "1 0 1"], desk, alike + "comes 1\nwhy 1\nscale 1 1\nside 1 0 1\ncomes 1\nwhy 1")
        self.told(["done", "done", "refused CanNot", "0 0 1", "2 0"], desk, alike + "raise 1\nwhy 1\nwhy 0\nplace 1")
        self.told(["refused Unfit", "refused Unfit", "refused Unfit", "refused BadText", "refused BadText", "done", "2 1 0", "done", "-"], desk,
                  "sides\n sides\n side\n side 0\nranking\n ranking 0 1\nranking\n ranking 0 1 2 3\nranking\n ranking 0 1 1\nsides\n sides\n side\n side 3\n"
                  "ranking\n ranking 2 1 0\nranks\nsides\n sides\n side\n side 2\n side 0 0\ncomes 0")

    def test_sides_and_ranks(self):
        # NoPlace for the first one, then the second one; then Unfit.
        for line, reply in (("side 3 3 9", "refused NoPlace"), ("side 3 0 0", "refused NoPlace"), ("side 0 3 9", "refused NoPlace"), ("side 1 1 9", "refused Unfit"), ("side 0 1 3", "refused Unfit"),
                            ("side 1 0 999999", "refused Unfit"), ("side 2 0 2", "done"), ("side 0 1 0", "done"), ("raise 3", "refused NoPlace"), ("raise 0", "refused CanNot"), ("raise 1", "done")):
            self.told([reply], desk, line)
        self.told(["done", "done", "refused CanNot", "2 0 1", "0", "0", "2/3"], desk, "raise 2\nraise 2\nraise 2\nranks\ncomes 2\ncomes 0\ncomes 1")
        self.told(["done", "-", "ban 1 2", "done", "2/3"], desk, "side 2 1 2\ncomes 2\nwhy 2\nside 1 2 0\ncomes 2")

    def test_scales(self):
        for line in ("scale 0 1", "scale 1 0", "scale 0 0", "zoom 0 1", "zoom 1 0", "zoom 0 0", "slide 0 1", "slide 2 0", "slide 0 0", "slide 1 1", "slide 1 2", "slide 999998 999999"):
            self.told(["refused Unfit", "1"], desk, line + "\nat")
        self.told(["0", "0", "done", "3", "0", "refused Unfit"], desk, "slide 2 1\nslide 999999 999998\nscale 1 3\nslide 1 1\nslide 1 2\nslide 2 6")
        self.told(["done", "2/3", "done", "-"], desk, "scale 1 2\nnext\nscale 2 3\nnext")
        self.told(["done", "0 1", "refused CanNot", "refused NoPlace", "-2 0", "2 0"], desk, "scale 1 3\nshown\nplace 2\nplace 3\nplace 0\nplace 1")

    def test_undo(self):
        self.told(["refused CanNot", "done", "scale", "refused CanNot", "1"], desk, "undo\nscale 2 1\nundo\nundo\nat")
        # Refused requests and questions are no deeds; a deed that changes nothing is one.
        self.told(["done", "refused CanNot", "2", "refused Unfit", "scale", "1"], desk, "scale 2 1\nraise 0\nat\nzoom 0 1\nundo\nat")
        self.told(["done", "done", "done", "side", "zoom", "scale", "refused CanNot"], desk, "scale 1 1\nzoom 1 1\nside 0 1 0\nundo\nundo\nundo\nundo")
        # Undo is no deed: what is done behind it goes on from there.
        self.told(["done", "done", "zoom", "2", "done", "10", "zoom", "scale", "1", "refused CanNot"], desk, "scale 2 1\nzoom 3 1\nundo\nat\nzoom 5 1\nat\nundo\nundo\nat\nundo")
        # A MAP taken back brings back all that was held.
        told = ["done", "done", "done", "done", "0", "map", "1 0 2", "3", "-", "side", "raise", "scale", "0 1 2", "refused CanNot"]
        self.told(told, desk, "scale 3 1\nraise 1\nside 0 2 2\nmap\n map\n name 2 1 0 0 0 0 0 0 0 0\nranks\nundo\nranks\nat\ncomes 2\nundo\nundo\nundo\nranks\nundo")
        self.told(["done", "ranking", "0 1 2", "done", "sides", "2/3"], desk, "ranking\n ranking 2 1 0\nundo\nranks\nsides\n sides\n side\n side 2\n side 2 2\nundo\ncomes 2")

    def test_beside_a_plain_desk(self):
        picked = random.Random(271)
        found = []
        for _ in range(150):
            requests = [drawn_request(picked, 3) for _ in range(picked.randrange(1, 16))]
            text = "\n".join(requests)
            plain = Plain()
            heads = parted(text)
            if isinstance(heads, int):
                self.refused(BadText, {"line": heads}, desk, text)
                found.append((None, None))
                continue
            told = [plain.work(*request) for request in heads]
            self.told(told, desk, text)
            found += [(head.split(" ")[0], reply.split(" ")[-1] if reply.startswith("refused") else "") for (head, _), reply in zip(heads, told)]
        self.assertEqual({word for word, _ in found if word}, {*LINES})
        self.assertGreater(len({*found}), 28)

    def test_texts_bent_in_one_place(self):
        picked = random.Random(272)
        found = []
        for _ in range(300):
            text = "\n".join([drawn_request(picked, 3) for _ in range(picked.randrange(1, 5))])
            at = picked.randrange(len(text) + 1)
            text = text[:at] + picked.choice((" ", "\n", "0", "1", "x", "\n ", "", "")) + text[at + picked.randrange(2):]
            heads = parted(text)
            if text == "":
                self.told([], desk, text)
            elif isinstance(heads, int):
                self.refused(BadText, {"line": heads}, desk, text)
            else:
                plain = Plain()
                self.told([plain.work(*request) for request in heads], desk, text)
            self.judged(is_request, [text] if isinstance(heads, list) and len(heads) == 1 else [], [] if isinstance(heads, list) and len(heads) == 1 else [text])
            found.append(heads if isinstance(heads, int) else None)
        self.assertGreater(len({*found}), 4)

    def test_reasons_are_reasons(self):
        picked = random.Random(273)
        for _ in range(20):
            chart = drawn_loose(picked, 4)[0]
            sides, ranking = drawn_sides(picked, 4, (0, 0, 0, 1, 2)), drawn_row(picked, 4)
            text = f"map\n{within(map_told(chart))}\nsides\n{within(sides_told(sides))}\nranking\n{within(ranking_told(ranking))}\n"
            replies = desk(text + "\n".join([f"why {name}\ncomes {name}" for name in range(4)]))
            self.assertEqual(replies[:3], ["done"] * 3)
            numbers = steady(chart, sides, ranking, all_comings(chart, sides))
            for name, own, number in zip(range(4), replies[3::2], replies[4::2]):
                self.assertEqual(number, word_for(numbers[name]))
                if own == "refused CanNot":
                    self.assertEqual(number, "0")
                else:
                    words = own.split(" ")
                    paper = tuple(map(int, words[1:])) if words[0] == "ban" else (int(words[0]), tuple(map(int, words[1:])))
                    self.assertIs(is_reason(chart, sides, ranking, name, paper), True)

    def test_many_requests_and_sixteen_names(self):
        chart = drawn_map(random.Random(274), 16)
        text = f"map\n{within(map_told(chart))}\n" + "raise 15\n" * 15 + "ranks\nnext\n" + "undo\n" * 16 + "ranks"
        replies = desk(text)
        self.assertEqual(replies[:16], ["done"] * 16)
        self.assertEqual(replies[16], " ".join(map(str, (15, *range(15)))))
        self.assertEqual(replies[18:-1], ["raise"] * 15 + ["map"])
        self.assertEqual(replies[-1], "0 1 2")
        self.assertEqual(desk("at\n" * 400 + "at"), ["1"] * 401)

    def test_lists_are_new(self):
        one = desk("at")
        one.clear()
        self.assertEqual(desk("at"), ["1"])


class TestIsRequest(Calls):
    def test_things(self):
        yes = ["at", "ranks", "shown", "next", "undo", "raise 3", "comes 0", "why 999999", "place 1", "side 9 9 9", "scale 0 0", "zoom 1 2", "slide 1 2",
               "map\n x", "sides\n ", "ranking\n x\n  y\n ~", "map\n map\n name", "map\n \u00e9"]
        no = ["raise", "map", "side 1 2", "", "\n", " ", "at\n", "at\nat", "at\n x", "map\nx", "map x\n y", "map\n x\n", "map\n x\ny", "map \n x", "AT", "at ", " at", "raise 1000000", "raise 03", "raise -1", "raise 1\n 2"]
        self.judged(is_request, yes, no + [own for own in THINGS] + [list(own) for own in yes] + [(own,) for own in yes])
        self.assertEqual({own.split(" ")[0].split("\n")[0] for own in yes}, {*LINES})
