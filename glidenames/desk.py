"""A desk: a map, sides, a ranking and a scale, and requests worked from top to bottom."""

from glidenames.books import arrivals, book_of, comes_at, is_ranking, reason, shown
from glidenames.errors import BadText, CanNot, NoPlace, Unfit
from glidenames.fractions import fraction, is_less, times
from glidenames.ranks import raised, rank_of
from glidenames.sides import by_rule, is_sides, with_side
from glidenames.slides import least_slide
from glidenames.stands import least_standing
from glidenames.texts import read_map, read_ranking, read_sides
from glidenames.values import check_place, is_number
from glidenames.words import figures_told, fraction_word, words_for

FIRST = (
    (4, 1, (0, 2, 0, 2), (0, 0, 0, 0)), (4, 1, (3, 2, 3, 2), (0, 0, 0, 0)), (4, 1, (6, 2, 6, 2), (0, 0, 0, 0)),
)

MOST_FIGURES = 6

# For what there is none of.
NOTHING = "-"

# By the word with which a request begins: how many numbers follow it, and whether a text does.
REQUESTS = {
    "map": (0, True), "sides": (0, True), "ranking": (0, True), "side": (3, False), "raise": (1, False),
    "scale": (2, False), "zoom": (2, False), "undo": (0, False), "at": (0, False), "ranks": (0, False),
    "shown": (0, False), "next": (0, False), "comes": (1, False), "why": (1, False), "place": (1, False),
    "slide": (2, False),
}


def request_of(line, rest):
    """The word, numbers and text of the request that line begins, rest its other lines; None if it is none."""
    words = line.split(" ")
    if words[0] not in REQUESTS:
        return None
    many, has_text = REQUESTS[words[0]]
    numbers = [figures_told(word, MOST_FIGURES) for word in words[1:]]
    if len(numbers) != many or None in numbers or has_text != (len(rest) > 0):
        return None
    return (words[0], numbers, "".join([own[1:] + "\n" for own in rest]))


def requests_of(text):
    """The requests of text."""
    lines = text.split("\n")
    requests = []
    at = 0
    while at < len(lines):
        stop = at + 1
        while stop < len(lines) and lines[stop].startswith(" "):
            stop += 1
        request = request_of(lines[at], lines[at + 1:stop])
        if request is None:
            raise BadText(at + 1)
        requests.append(request)
        at = stop
    return requests


def scale_told(top, below):
    """The SCALE of these two numbers; Unfit() if one of them is 0."""
    if top == 0 or below == 0:
        raise Unfit()
    return fraction(top, below)


class Held:
    """What a desk holds: a MAP, SIDES, a RANKING and a SCALE; it stays as it is."""

    def __init__(self, chart, sides, ranking, scale):
        self.chart = chart
        self.sides = sides
        self.ranking = ranking
        self.scale = scale

    def steady(self):
        """The steady BOOK."""
        return book_of(self.chart, self.sides, self.ranking)

    def with_sides(self, sides):
        """The same with these SIDES."""
        return Held(self.chart, sides, self.ranking, self.scale)

    def with_ranking(self, ranking):
        """The same with this RANKING."""
        return Held(self.chart, self.sides, ranking, self.scale)

    def with_scale(self, scale):
        """The same with this SCALE."""
        return Held(self.chart, self.sides, self.ranking, scale)


def newly_held(chart):
    """What is held as chart comes to be held."""
    return Held(chart, by_rule(chart), tuple(range(len(chart))), (1, 1))


def hold_map(held, numbers, text):
    """held behind "map"."""
    return newly_held(read_map(text))


def hold_sides(held, numbers, text):
    """held behind "sides"."""
    sides = read_sides(text)
    if not is_sides(held.chart, sides):
        raise Unfit()
    return held.with_sides(sides)


def hold_ranking(held, numbers, text):
    """held behind "ranking"."""
    ranking = read_ranking(text)
    if not is_ranking(held.chart, ranking):
        raise Unfit()
    return held.with_ranking(ranking)


def hold_side(held, numbers, text):
    """held behind "side"."""
    one, other, side = numbers
    sides = with_side(held.sides, one, other, side)
    if not is_sides(held.chart, sides):
        raise Unfit()
    return held.with_sides(sides)


def hold_raised(held, numbers, text):
    """held behind "raise"."""
    name = numbers[0]
    rank = rank_of(held.ranking, name)
    if rank == 0:
        raise CanNot()
    return held.with_ranking(raised(held.ranking, name, rank - 1))


def hold_scale(held, numbers, text):
    """held behind "scale"."""
    return held.with_scale(scale_told(*numbers))


def hold_zoomed(held, numbers, text):
    """held behind "zoom"."""
    return held.with_scale(times(held.scale, scale_told(*numbers)))


def tell_scale(held, numbers):
    """The answer to "at"."""
    return fraction_word(held.scale)


def tell_ranks(held, numbers):
    """The answer to "ranks"."""
    return words_for(held.ranking)


def tell_shown(held, numbers):
    """The answer to "shown"."""
    return words_for(shown(held.steady(), held.scale))


def tell_next(held, numbers):
    """The answer to "next"."""
    left = [own for own in arrivals(held.steady()) if is_less(held.scale, own)]
    return fraction_word(left[0]) if len(left) > 0 else NOTHING


def tell_coming(held, numbers):
    """The answer to "comes"."""
    number = comes_at(held.chart, held.sides, held.ranking, numbers[0])
    return NOTHING if number is None else fraction_word(number)


def tell_why(held, numbers):
    """The answer to "why"."""
    first, second = reason(held.chart, held.sides, held.ranking, numbers[0])
    if is_number(second):
        return "ban " + words_for((first, second))
    return words_for((first,) + second)


def tell_place(held, numbers):
    """The answer to "place"."""
    name = numbers[0]
    check_place(name, len(held.chart))
    lot = shown(held.steady(), held.scale)
    if name not in lot:
        raise CanNot()
    x, y = least_standing(held.chart, held.sides, lot, held.scale)[lot.index(name)]
    return fraction_word(x) + " " + fraction_word(y)


def tell_slide(held, numbers):
    """The answer to "slide"."""
    last = scale_told(*numbers)
    return fraction_word(least_slide(held.chart, held.sides, held.steady(), held.scale, last))


# By the word of a deed: what is held behind it. A call that raises an error leaves all as it was.
DEEDS = {
    "map": hold_map, "sides": hold_sides, "ranking": hold_ranking, "side": hold_side, "raise": hold_raised,
    "scale": hold_scale, "zoom": hold_zoomed,
}

# By the word of a question: its answer.
ANSWERS = {
    "at": tell_scale, "ranks": tell_ranks, "shown": tell_shown, "next": tell_next, "comes": tell_coming,
    "why": tell_why, "place": tell_place, "slide": tell_slide,
}


class Desk:
    """A desk at work."""

    def __init__(self):
        self.held = newly_held(FIRST)
        # Pairs of the word of each deed done and not taken back, and what was held ahead of it.
        self.past = []

    def do(self, word, numbers, text):
        """Does a deed."""
        deed = DEEDS[word]
        behind = deed(self.held, numbers, text)
        self.past.append((word, self.held))
        self.held = behind
        return "done"

    def undo(self):
        """Takes the last deed back."""
        if len(self.past) == 0:
            raise CanNot()
        word, self.held = self.past.pop()
        return word

    def work(self, word, numbers, text):
        """The reply to a request that is not refused."""
        if word == "undo":
            return self.undo()
        if word in DEEDS:
            return self.do(word, numbers, text)
        answer = ANSWERS[word]
        return answer(self.held, numbers)

    def reply(self, request):
        """The reply to request."""
        try:
            return self.work(*request)
        except BadText:
            return "refused BadText"
        except NoPlace:
            return "refused NoPlace"
        except CanNot:
            return "refused CanNot"
        except Unfit:
            return "refused Unfit"


def desk(text):
    """The replies to the requests of text."""
    if text == "":
        return []
    own = Desk()
    replies = []
    for request in requests_of(text):
        replies.append(own.reply(request))
    return replies


def is_request(thing):
    """Whether thing is a string that is one request."""
    if not isinstance(thing, str):
        return False
    try:
        return len(requests_of(thing)) == 1
    except BadText:
        return False
