"""One judge [22]: claims, papers for and against them, and what comes of them, beside plain rules."""

import fractions
import itertools
import random

from glidenames.books import arrivals, book_of, keeps, shown
from glidenames.errors import Unfit
from glidenames.glides import events, glide, is_glide, slide_of
from glidenames.judge import (
    comes_of, first_false, is_claim, is_paper_against, is_paper_for, is_so, paper, verdicts,
)
from glidenames.maps import sized, spread
from glidenames.sides import bans, by_rule
from glidenames.slides import least_slide, slowest
from glidenames.stands import can_stand, least_standing
from tests import reckoned
from tests.drawn import ROW, STILL, drawn_lot, drawn_map, drawn_row
from tests.kit import FORMS, THINGS, Calls, as_lists, mixed, nested, put, unlike
from tests.reckoned import EVER, all_chains, number, pair, worth
from tests.test_books import by_name, drawn_book, some_ranked
from tests.test_glides import drawn_glide
from tests.test_slides import all_rings, plain_offsets, ratio

LEFTS, ORDER, BOOK, ONE = ((), (0,), (0, 0)), (0, 2, 1), ((0, 1), (2, 3), (0, 1)), (1, 1)
AT_ONCE, THIRD = ((0, 1),) * 3, (1, 3)
AT_TWO = (((-2, 1), (0, 1)), ((2, 1), (0, 1)), ((6, 1), (0, 1)))
CHAIN = (0, (0, 1, 2))
STANDS = ("stands", ROW, LEFTS, (0, 1, 2), (2, 3))
COMES = ("comes", ROW, LEFTS, ORDER, 1, (2, 3))
STEADY = ("steady", ROW, LEFTS, ORDER, BOOK)
KEEPS = ("keeps", ROW, LEFTS, BOOK)
ALIKE = ("alike", ROW, LEFTS, ORDER, (2, 0, 1))
# NAMES 0 and 2 are fast: the LEAST SLIDE from 1 to 2 is 2.
THREE = tuple([(4, 1, (own, far, own, far), STILL) for own, far in ((0, 0), (2, 2), (4, 0))])
LATE, TWO = ((0, 1), (1, 1), (2, 1)), (2, 1)
SLIDES = ("slides", THREE, LEFTS, LATE, ONE, TWO, TWO)
EACH = (STANDS, COMES, STEADY, KEEPS, ALIKE, SLIDES)
# Each of them, but not so.
WRONG = (
    ("stands", ROW, LEFTS, (0, 1, 2), (1, 2)), ("comes", ROW, LEFTS, ORDER, 2, None), ("steady", ROW, LEFTS, (0, 1, 2), BOOK), ("keeps", ROW, LEFTS, AT_ONCE),
    ("alike", ROW, LEFTS, (0, 1, 2), ORDER), ("slides", THREE, LEFTS, LATE, ONE, TWO, (3, 2)),
)
# Its LOT SHOWN can not stand at 1/3.
UNTRUE = ("slides", ROW, LEFTS, AT_ONCE, THIRD, ONE, (9, 1))
EXTRA = ("stands", ROW, LEFTS, (), THIRD), ("comes", ROW, LEFTS, ORDER, 0, (0, 1)), ("comes", ROW, LEFTS, ORDER, 0, None), ("slides", ROW, LEFTS, (None,) * 3, THIRD, ONE, (0, 1))
# What is no CLAIM.
NONE = (
    (), ("stands",), STANDS[:4], STANDS + (ONE,), ("stand", *STANDS[1:]), (None, *STANDS[1:]), (("stands",), *STANDS[1:]), STANDS[1:], (STANDS,), "stands",
    put(STANDS, 1, ()), put(STANDS, 1, ROW[:2]), put(STANDS, 2, LEFTS[:2]), put(STANDS, 2, ((), (3,), (0, 0))), put(STANDS, 3, (0, 3)), put(STANDS, 3, (1, 0)), put(STANDS, 3, (0, 0)),
    put(STANDS, 3, (-1,)), put(STANDS, 3, 0), put(STANDS, 4, (0, 1)), put(STANDS, 4, (4, 6)), put(STANDS, 4, (-1, 2)), put(COMES, 3, (0, 1)), put(COMES, 3, (0, 1, 1)), put(COMES, 4, 3),
    put(COMES, 4, -1), put(COMES, 5, (-1, 3)), put(COMES, 5, (4, 6)), put(COMES, 5, 0), COMES[:5], COMES + (None,), put(STEADY, 3, BOOK), put(STEADY, 4, BOOK[:2]), put(STEADY, 4, ORDER),
    put(STEADY, 4, ((0, 1), (4, 6), (0, 1))), KEEPS + (BOOK,), KEEPS[:3], put(KEEPS, 3, ORDER), put(ALIKE, 4, (0, 1)), put(ALIKE, 3, BOOK), ALIKE[:4], put(SLIDES, 4, TWO), put(SLIDES, 5, ONE),
    put(SLIDES, 4, (0, 1)), put(SLIDES, 4, (9, 1)), put(SLIDES, 6, (-1, 1)), put(SLIDES, 6, None), put(SLIDES, 3, ORDER), SLIDES[:6], SLIDES + (ONE,), ("slides", *KEEPS[1:]), ("keeps", *STEADY[1:]),
    STEADY + (BOOK,), STEADY + (None,), STEADY[:4], ("steady",), ("steady", ROW), ("steady", ROW, LEFTS), ALIKE + (ORDER,),
    ("", *KEEPS[1:]), ("Keeps", *KEEPS[1:]),
)


def lots_stand(claim):
    """Whether a CLAIM of "slides" asks of LOTS that can stand at each EVENT."""
    _, chart, sides, book, first, last, _ = claim
    return all([can_stand(chart, sides, shown(book, scale), scale) for scale in events(book, first, last)])


def plain_so(claim):
    """Whether a CLAIM is so, by the tests' own reckonings."""
    word, chart, sides, *rest = claim
    if word == "stands":
        return reckoned.coming(chart, sides, rest[0]) <= worth(rest[1])
    if word == "comes":
        return reckoned.steady(chart, sides, rest[0])[rest[1]] == worth(rest[2])
    if word == "steady":
        return reckoned.steady(chart, sides, rest[0]) == by_name(rest[1])
    if word == "keeps":
        return reckoned.never_falls(reckoned.all_comings(chart, sides), by_name(rest[0]))
    if word == "alike":
        return reckoned.steady(chart, sides, rest[0]) == reckoned.steady(chart, sides, rest[1])
    book, first, last, most = rest
    return plain_offsets(chart, sides, book, [worth(own) for own in events(book, first, last)], worth(most)) is not None


def plain_for(claim, thing):
    """Whether thing, of the form of some PAPER, is one for a CLAIM that is so."""
    word, chart, sides, *rest = claim
    if word == "stands":
        lot, scale = rest
        fits = isinstance(thing, tuple) and len(thing) == len(lot) and all([isinstance(own, tuple) and isinstance(own[0], tuple) for own in thing])
        return fits and reckoned.is_standing(chart, sides, lot, worth(scale), thing)
    if word == "comes" and worth(rest[2]) > 0:
        ranking, name, own = rest
        book = reckoned.steady(chart, sides, ranking)
        above = ranking[:ranking.index(name)]
        if thing in bans(sides):
            return own is None and name in thing and all([one == name or (one in above and book[one] < EVER) for one in thing])
        if thing not in all_chains(chart, sides, range(len(chart))) or name not in thing[1] or number(chart, thing) != worth(own):
            return False
        return all([one == name or (one in above and book[one] < worth(own)) for one in thing[1]])
    if word == "slides":
        book, first, last, most = rest
        if not is_glide(chart, sides, book, thing) or (thing[0][0], thing[-1][0]) != (first, last):
            return False
        return worth(slide_of(chart, book, thing)) <= worth(most)
    return thing == ()


def plain_against(claim, thing):
    """Whether thing, of the form of some PAPER, is one against a CLAIM that is not so."""
    word, chart, sides, *rest = claim
    blocks = [*bans(sides), *all_chains(chart, sides, range(len(chart)))]
    names = thing[1] if thing in blocks and isinstance(thing[1], tuple) else thing
    if word == "stands":
        if thing not in blocks or not {*names} <= {*rest[0]}:
            return False
        return names is thing or number(chart, thing) > worth(rest[1])
    if word == "comes":
        return repr(thing) == repr(pair(reckoned.steady(chart, sides, rest[0])[rest[1]]))
    if word == "keeps":
        if thing not in blocks or None in [rest[0][one] for one in names]:
            return False
        return names is thing or all([worth(rest[0][one]) < number(chart, thing) for one in names])
    if word == "slides":
        book, first, last, most = rest
        scales = [worth(own) for own in events(book, first, last)]
        own = ratio(chart, scales, thing) if thing in all_rings(chart, sides, book, scales, 5) else None
        return own is not None and own > worth(most)
    own = reckoned.steady(chart, sides, rest[0])
    there = by_name(rest[1]) if word == "steady" else reckoned.steady(chart, sides, rest[1])
    return thing in own and own[thing] != there[thing] if isinstance(thing, int) else False


def drawn_claims(picked, chart, sides, ranking, comings):
    """CLAIMS of each kind, but of "slides", about as often so as not."""
    book, lot = book_of(chart, sides, ranking), drawn_lot(picked, len(chart))
    other = drawn_book(picked, book, comings)
    numbers = [pair(own) for own in {0, *comings.values()}]
    name = picked.randrange(len(chart))
    yield ("stands", chart, sides, lot, picked.choice([own for own in numbers if own and own[0]] + [(1, 2), (3, 1)]))
    yield ("comes", chart, sides, ranking, name, picked.choice((book[name], book[name], picked.choice(numbers))))
    yield ("steady", chart, sides, ranking, picked.choice((book, other)))
    yield ("keeps", chart, sides, other)
    yield ("alike", chart, sides, ranking, drawn_row(picked, len(chart)))


def drawn_slides(picked, chart, sides, ranking, comings):
    """A CLAIM of "slides"."""
    book = book_of(chart, sides, ranking)
    other = drawn_book(picked, book, comings)
    book = other if keeps(chart, sides, other) else book
    ends = [pair(own) for own in sorted({fractions.Fraction(1, 3), *[worth(own) for own in arrivals(book)][:2], fractions.Fraction(9)})]
    first, last = sorted(picked.sample(ends, 2), key=worth)
    least = worth(least_slide(chart, sides, book, first, last))
    most = max(0, least + picked.choice((-1, 0, 0, 1)) * fractions.Fraction(1, 7))
    return ("slides", chart, sides, book, first, last, pair(most))


def pool(picked, claim):
    """Things that have the form of PAPERS."""
    chart, sides = claim[1:3]
    many = len(chart)
    lot = claim[3] if claim[0] == "stands" else tuple(range(many))
    things = [(), None, *range(many), many, *all_chains(chart, sides, range(many)), *itertools.combinations(range(many), 2), (0, 1), (1, 2), (2, 3)]
    for scale in ((1, 3), (1, 1), (5, 1)):
        if can_stand(chart, sides, lot, scale):
            things.append(least_standing(chart, sides, lot, scale))
    if claim[0] == "slides":
        book, first, last, _ = claim[3:]
        scales = [worth(own) for own in events(book, first, last)]
        rings = all_rings(chart, sides, book, scales, 5)
        things += picked.sample(rings, min(len(rings), 12))
        things += [glide(chart, sides, book, first, last), slowest(chart, sides, book, first, last), drawn_glide(picked, chart, sides, book)]
    return things


class TestIsClaim(Calls):
    def test_each_kind(self):
        self.judged(is_claim, EACH + WRONG + EXTRA + (UNTRUE,), NONE + THINGS)
        far = 10 ** 400
        great = (("stands", ROW, LEFTS, (2,), (1, far)), ("comes", ROW, LEFTS, ORDER, 2, (far, 1)), ("slides", ROW, LEFTS, BOOK, (1, far), (far, 1), (far, 1)))
        self.judged(is_claim, great, [as_lists(own) for own in EACH] + [list(own) for own in EACH] + [mixed(own) for own in EACH])

    def test_things_in_each_place(self):
        no = []
        for claim in EACH:
            for place in range(len(claim)):
                things = [thing for thing in unlike(THINGS, []) if repr(put(claim, place, thing)) not in map(repr, EACH)]
                no += [put(claim, place, thing) for thing in things]
        # Some of them are CLAIMS: of other LOTS, NAMES, numbers, SCALES.
        may = [own for own in no if own[0] == "stands" and own[3] in ((), (1,)) and own[:3] + own[4:] == STANDS[:3] + STANDS[4:]]
        may += [own for own in no if own[0] == "stands" and own[4] == (1, 1) and own[:4] == STANDS[:4]]
        may += [own for own in no if own[0] == "comes" and (own[:4] + own[5:] == COMES[:4] + COMES[5:] and own[4] in (0, 1, 2) or own[:5] == COMES[:5] and own[5] in (None, (1, 1)))]
        may += [own for own in no if own[0] == "slides" and own[:6] == SLIDES[:6] and own[6] == (1, 1)]
        may = [own for own in may if "True" not in repr(own) and "False" not in repr(own)]
        self.assertGreater(len(may), 6)
        self.judged(is_claim, may, [own for own in no if repr(own) not in map(repr, may)])
        self.judged(is_claim, (), [put(STANDS, 1, nested(99, tuple)), put(STANDS, 3, nested(99, list)), put(KEEPS, 3, nested(99, tuple)), nested(100, tuple)])
        for claim, place, new in ((STANDS, 3, (0, True, 2)), (STANDS, 4, (2, True)), (COMES, 4, True), (COMES, 5, (False, 1)), (ALIKE, 4, (2, False, 1)), (KEEPS, 3, put(BOOK, 0, (0, True))),
                                  (SLIDES, 6, (True, 1)), (SLIDES, 5, (1, True)), (STANDS, 3, [0, 1]), (STANDS, 4, [2, 3]), (STEADY, 3, [0, 2, 1]), (COMES, 5, [2, 3]), (KEEPS, 1, list(ROW))):
            self.judged(is_claim, [claim], [put(claim, place, new)])


class TestUnfit(Calls):
    def test_what_is_no_claim(self):
        for claim in NONE + tuple([thing for thing in THINGS if thing is None or isinstance(thing, (bool, int, str))]) + (nested(90, tuple),):
            for function in (is_so, paper):
                self.refused(Unfit, {}, function, claim)
            for function in (is_paper_for, is_paper_against):
                for thing in ((), None, CHAIN):
                    with self.assertRaises(Unfit):
                        function(claim, thing)
            for claims in ((claim,), (STANDS, claim), (claim, UNTRUE), (UNTRUE, claim)):
                self.refused(Unfit, {}, first_false, claims)
                self.refused(Unfit, {}, comes_of, STANDS, claims)
                self.refused(Unfit, {}, verdicts, claims, ((),) * len(claims))
            self.refused(Unfit, {}, comes_of, claim, (STANDS,))
            self.refused(Unfit, {}, comes_of, claim, ())
        for claims in (None, 7, True, "", "stands"):
            self.refused(Unfit, {}, first_false, claims)
            self.refused(Unfit, {}, comes_of, STANDS, claims)
        # In first_false all of them are looked at before the first one that is not so.
        self.refused(Unfit, {}, first_false, (WRONG[0], NONE[0]))

    def test_unlike_many(self):
        for claims, things in (((STANDS,), ()), ((), ((),)), (EACH, ((),) * 5), ((UNTRUE,), ((), ())), ((STANDS, STANDS), (AT_TWO,))):
            self.refused(Unfit, {}, verdicts, claims, things)

    def test_lots_that_can_not_stand(self):
        for claim in (UNTRUE, put(UNTRUE, 2, ((), (2,), (0, 0))), put(UNTRUE, 4, (1, 10 ** 6))):
            self.judged(is_claim, [claim], [as_lists(claim)])
            for function in (is_so, paper):
                self.refused(Unfit, {}, function, claim)
            for function in (is_paper_for, is_paper_against):
                for thing in ((), None, CHAIN, 7, nested(100, list)):
                    self.refused(Unfit, {}, function, claim, thing)
            self.refused(Unfit, {}, verdicts, (STANDS, claim), (AT_TWO, ()))
            self.refused(Unfit, {}, verdicts, (claim, STANDS), ((), AT_TWO))
            # In order: to the first one that is not so; comes_of does not ask.
            self.refused(Unfit, {}, first_false, (claim,))
            self.refused(Unfit, {}, first_false, (STANDS, claim, WRONG[0]))
            self.told(1, first_false, (STANDS, WRONG[0], claim))
            self.told(True, comes_of, claim, (claim,))
            self.told(True, comes_of, put(claim, 6, (10, 1)), (STANDS, claim))
            self.told(False, comes_of, STANDS, (claim,))
        # All that counts is from the first to the last SCALE.
        self.told(True, is_so, put(UNTRUE, 4, (2, 3)))
        self.told(True, is_so, ("slides", ROW, LEFTS, ((0, 1), (1, 2), (0, 1)), (1, 9), THIRD, (9, 1)))


class TestPapers(Calls):
    def test_each_kind(self):
        for claim, wrong in zip(EACH, WRONG):
            self.told(True, is_so, claim)
            self.told(False, is_so, wrong)
            for own, yes, no in ((claim, is_paper_for, is_paper_against), (wrong, is_paper_against, is_paper_for)):
                told = paper(own)
                self.told(told, paper, own)
                self.judged(yes, [told], [told + ((),) if isinstance(told, tuple) else (told,), "", nested(100, tuple), nested(100, list)], own)
                self.judged(no, (), [told, *THINGS], own)
                if isinstance(told, tuple) and told:
                    self.judged(yes, (), [as_lists(told), list(told), *unlike(THINGS, [told])], own)
        for claim in EXTRA:
            own = is_so(claim)
            self.judged(is_paper_for if own else is_paper_against, [paper(claim)], [as_lists(paper(claim)), None], claim)
            self.judged(is_paper_against if own else is_paper_for, (), [paper(claim), *THINGS], claim)

    def test_things(self):
        # A number, None, a NAME, (): each as it is written.
        self.judged(is_paper_against, [(0, 1)], [(0, 2), (False, 1), (0, True), [0, 1], (0, 1, 1), None, (), 0, (2, 3), *THINGS], WRONG[1])
        never = ("comes", ROW, ((), (2,), (0, 0)), ORDER, 1, (2, 3))
        self.judged(is_paper_against, [None], [thing for thing in THINGS if thing is not None] + [(0, 1), (2, 3)], never)
        self.judged(is_paper_for, [(0, 1)], [(1, 0), None, (), *THINGS], put(never, 5, None))
        self.judged(is_paper_against, [1, 2], [True, 0, 3, -1, (1,), [1], "1", None, (), 10 ** 6, *[own for own in THINGS if own not in (1, 2)]], WRONG[2])
        for claim in (STEADY, KEEPS, ALIKE, EXTRA[1]):
            self.judged(is_paper_for, [()], [[], 0, False, None, ((),), "", *unlike(THINGS, [()])], claim)
        self.judged(is_paper_for, [()], [[], ((),), None], EXTRA[0])
        self.judged(is_paper_for, [AT_TWO], [as_lists(AT_TWO), AT_TWO[:2], AT_TWO + AT_TWO[:1], put(AT_TWO, 0, ((-4, 2), (0, 1))), CHAIN, *THINGS], STANDS)
        self.judged(is_paper_against, [CHAIN], [(0, [0, 1, 2]), list(CHAIN), (False, (0, 1, 2)), (0, (0, 1)), (0, 1), AT_TWO, *THINGS], WRONG[0])
        self.judged(is_paper_against, [CHAIN], [(0, (0, 2)), (0, 1), *THINGS], WRONG[3])

    def test_slides(self):
        way, flat = paper(SLIDES), (0, 1)
        self.judged(is_paper_for, [way], [way[:1], way[1:], as_lists(way), way[::-1], way + way[:1], paper(WRONG[5]), *THINGS], SLIDES)
        # Not from first to last; from first to last, but faster.
        loose = put(SLIDES, 6, (10 ** 6, 1))
        self.judged(is_paper_for, [way], [glide(THREE, LEFTS, LATE, *ends) for ends in (((1, 2), TWO), (ONE, (3, 2)), (ONE, (3, 1)), ((3, 2), TWO))], loose)
        fast = (way[0], ((3, 2), ((flat, flat), ((5, 1), flat))), way[1])
        self.judged(is_glide, [fast], (), THREE, LEFTS, LATE)
        self.same(slide_of(THREE, LATE, fast), (4, 1))
        for most, yes, no in (((4, 1), [way, fast], []), ((39, 10), [way], [fast]), ((5, 1), [way, fast], [])):
            self.judged(is_paper_for, yes, no, put(SLIDES, 6, most))
        # RINGS: without a step, with a RATIO that is not above, with a greater one than the LEAST SLIDE is not.
        ring, steps = paper(WRONG[5]), (0, ((0, 0), (0, 1)))
        self.judged(is_paper_against, [ring], [(0, (None, (0, 0))), (0, (None, (0, 1), (1, 1), (2, 1))), steps, as_lists(ring), *THINGS], WRONG[5])
        self.judged(is_paper_against, (), [ring, steps, *THINGS], SLIDES)
        self.judged(is_paper_against, (), [steps], put(SLIDES, 6, (0, 1)))

    def test_for_or_against_never_both(self):
        picked = random.Random(261)
        kinds = []
        for chart, sides, ranking, comings in some_ranked(261, 25, 3):
            for claim in drawn_claims(picked, chart, sides, ranking, comings):
                kinds.append(self.judge(picked, claim))
        self.assertEqual(len({*kinds}), 10)

    def test_slides_for_or_against(self):
        picked = random.Random(262)
        kinds = []
        for chart, sides, ranking, comings in some_ranked(262, 20, 3):
            claim = drawn_slides(picked, chart, sides, ranking, comings)
            self.assertTrue(lots_stand(claim))
            kinds.append(self.judge(picked, claim))
        self.assertEqual(len({*kinds}), 2)

    def judge(self, picked, claim):
        """Looks at a CLAIM and all things there are of the form of PAPERS; tells its kind."""
        own = plain_so(claim)
        self.told(own, is_so, claim)
        told = paper(claim)
        self.told(told, paper, claim)
        self.judged(is_paper_for if own else is_paper_against, [told], [], claim)
        self.judged(is_paper_against if own else is_paper_for, [], [told], claim)
        things = pool(picked, claim) + [told]
        fits = [(plain_for if own else plain_against)(claim, thing) for thing in things]
        if claim[0] == "slides" and not own:
            fits[-1] = True
        for thing, fit in zip(things, fits):
            self.assertIs(is_paper_for(claim, thing), fit and own)
            self.assertIs(is_paper_against(claim, thing), fit and not own)
        words = [("for" if own else "against") if fit else "none" for fit in fits]
        for form in FORMS:
            self.assertEqual(verdicts(form((claim,) * len(things)), things), words)
        return claim[0], own


class TestVerdicts(Calls):
    def test_as_told(self):
        claims = EACH + WRONG
        things = [paper(own) for own in claims]
        for form in FORMS:
            handed = form(claims)
            before = repr((handed, things))
            for row in (things, tuple(things)):
                self.same(verdicts(handed, row), ["for"] * 6 + ["against"] * 6)
                self.same(verdicts(claims=handed, things=row), ["for"] * 6 + ["against"] * 6)
                self.same(verdicts(handed, row[::-1]), self.rest(claims, things[::-1]))
            self.assertEqual(repr((handed, things)), before)
        # A list within is a list.
        lists = [as_lists(own) for own in things]
        told = ["none" if isinstance(own, list) else word for own, word in zip(lists, verdicts(claims, things))]
        self.same(verdicts(claims, lists), told)
        self.assertIn("against", told)
        self.told([], verdicts, (), ())
        self.told(["none"], verdicts, (STANDS,), (7,))

    def rest(self, claims, things):
        """What is_paper_for and is_paper_against tell."""
        pairs = list(zip(claims, things))
        return ["for" if is_paper_for(*own) else "against" if is_paper_against(*own) else "none" for own in pairs]

    def test_lists_are_new(self):
        one = verdicts((STANDS,), (AT_TWO,))
        one.clear()
        self.assertEqual(verdicts((STANDS,), (AT_TWO,)), ["for"])


class TestFirstFalse(Calls):
    def test_as_told(self):
        self.told(None, first_false, ())
        self.told(None, first_false, EACH)
        for at, wrong in enumerate(WRONG):
            self.told(at, first_false, put(EACH, at, wrong))
            self.told(at, first_false, EACH[:at] + WRONG[at:])
            self.told(0, first_false, (wrong, wrong))
        self.told(2, first_false, (STANDS, STANDS, EXTRA[2], KEEPS))


class TestComesOf(Calls):
    def test_as_told(self):
        self.told(True, comes_of, ("comes", ROW, LEFTS, (2, 0, 1), 1, (2, 3)), (STEADY, ALIKE))
        self.told(False, comes_of, ("stands", ROW, LEFTS, (0, 2), (1, 2)), (STANDS,))
        for claim in EACH + WRONG + EXTRA:
            self.told(True, comes_of, claim, (claim,))
            self.told(False, comes_of, claim, ())
            self.told(True, comes_of, claim, EACH + WRONG + EXTRA)
            # Of another MAP, of other SIDES it tells nothing.
            other = put(claim, 1, put(ROW, 0, (5, 1, *ROW[0][2:])))
            self.told(False, comes_of, claim, (other, put(claim, 2, ((), (0,), (0, 1)))))

    def test_rules_and_just_beside(self):
        a, b, c, d = (0, 1, 2), (1, 0, 2), (2, 1, 0), (0, 2, 1)

        def alike(one, other):
            return ("alike", ROW, LEFTS, one, other)

        for claim, claims, told in (
            (alike(b, a), (alike(a, b),), True), (alike(a, c), (alike(a, b), alike(b, c)), True), (alike(c, a), (alike(a, b), alike(c, b)), True), (alike(a, a), (alike(b, a),), True),
            (alike(a, a), (alike(b, c),), False), (alike(a, a), (), False), (alike(a, c), (alike(a, b), alike(d, c)), False), (alike(a, d), (alike(b, a), alike(b, c), alike(d, c)), True),
            (("steady", ROW, LEFTS, b, BOOK), (("steady", ROW, LEFTS, a, BOOK), alike(b, a)), True), (("steady", ROW, LEFTS, b, BOOK), (("steady", ROW, LEFTS, a, BOOK), alike(b, c)), False),
            (("steady", ROW, LEFTS, a, AT_ONCE), (("steady", ROW, LEFTS, a, BOOK),), False), (("steady", ROW, LEFTS, c, BOOK), (("steady", ROW, LEFTS, a, BOOK), alike(b, a), alike(b, c)), True),
            (("comes", ROW, LEFTS, b, 1, None), (("comes", ROW, LEFTS, a, 1, None), alike(a, b)), True), (("comes", ROW, LEFTS, b, 1, None), (("comes", ROW, LEFTS, a, 2, None), alike(a, b)), False),
            (("comes", ROW, LEFTS, b, 1, (2, 3)), (("comes", ROW, LEFTS, a, 1, None), alike(a, b)), False), (("comes", ROW, LEFTS, a, 1, (2, 3)), (("steady", ROW, LEFTS, a, BOOK),), True),
            (("comes", ROW, LEFTS, a, 0, (0, 1)), (("steady", ROW, LEFTS, a, BOOK),), True), (("comes", ROW, LEFTS, a, 0, (2, 3)), (("steady", ROW, LEFTS, a, BOOK),), False),
            (("comes", ROW, LEFTS, a, 1, (2, 3)), (KEEPS,), False), (KEEPS, (("steady", ROW, LEFTS, a, BOOK),), True), (KEEPS, (("steady", ROW, LEFTS, a, AT_ONCE),), False),
            (("steady", ROW, LEFTS, a, BOOK), (KEEPS,), False), (("steady", ROW, LEFTS, a, BOOK), tuple([("comes", ROW, LEFTS, a, name, own) for name, own in enumerate(BOOK)]), False),
            (("stands", ROW, LEFTS, (0, 2), (2, 3)), (STANDS,), True), (("stands", ROW, LEFTS, (), (5, 1)), (STANDS,), True), (("stands", ROW, LEFTS, (0, 2), (3, 5)), (STANDS,), False),
            (("stands", ROW, LEFTS, (0, 1, 2), (7, 9)), (STANDS,), True), (("stands", ROW, LEFTS, (0, 1), (9, 1)), (("stands", ROW, LEFTS, (0, 2), (1, 1)), ("stands", ROW, LEFTS, (1, 2), (1, 1))), False),
            (STANDS, (("stands", ROW, LEFTS, (0, 1, 2), (1, 2)),), True), (("stands", ROW, LEFTS, (), (1, 9)), (STANDS,), False),
            (put(SLIDES, 6, (5, 2)), (SLIDES,), True), (put(SLIDES, 6, (3, 2)), (SLIDES,), False), (put(SLIDES, 5, (3, 1)), (SLIDES,), False), (put(SLIDES, 4, (2, 5)), (SLIDES,), False),
            (put(SLIDES, 3, AT_ONCE), (SLIDES,), False), (("keeps", ROW, LEFTS, BOOK), (SLIDES,), False),
        ):
            self.told(told, comes_of, claim, claims)

    def test_beside_rules_again_and_again(self):
        picked = random.Random(263)
        chart, sides = ROW[:2], LEFTS[:2]
        rankings, books = ((0, 1), (1, 0)), (((0, 1), (1, 1)), ((0, 1), None))
        numbers, scales = ((0, 1), (1, 1), None), ((1, 1), (2, 1))
        every = [("alike", *own) for own in itertools.product(rankings, repeat=2)] + [("steady", *own) for own in itertools.product(rankings, books)]
        every += [("comes", *own) for own in itertools.product(rankings, (0, 1), numbers)] + [("keeps", own) for own in books]
        every += [("stands", *own) for own in itertools.product(((), (0,), (1,), (0, 1)), scales)]
        every += [("slides", own, THIRD, *rest) for own in books for rest in itertools.product(scales, ((0, 1), (1, 2)))]
        found = []
        for _ in range(60):
            given = picked.sample(every, picked.randrange(1, 6))
            known = closed(given, every)
            claims = tuple([(own[0], chart, sides, *own[1:]) for own in given])
            for own in every:
                self.assertIs(comes_of((own[0], chart, sides, *own[1:]), claims), own in known)
            found += [own[0] for own in known if own not in given]
        self.assertEqual({*found}, {own[0] for own in every})
        own = tuple([(own[0], chart, sides, *own[1:]) for own in every])
        for claim in own[::5]:
            self.told(True, comes_of, claim, own)
            self.told(own.index(claim) > 99, comes_of, claim, ())

    def test_what_comes_of_what_is_so_is_so(self):
        picked = random.Random(264)
        found = 0
        for chart, sides, ranking, comings in some_ranked(264, 15, 3):
            claims = [own for _ in range(4) for own in drawn_claims(picked, chart, sides, ranking, comings)]
            claims += [("steady", chart, sides, ranking, book_of(chart, sides, ranking)), drawn_slides(picked, chart, sides, ranking, comings)]
            true = tuple([own for own in claims if is_so(own)])
            for claim in claims + [own for _ in range(3) for own in drawn_claims(picked, chart, sides, drawn_row(picked, len(chart)), comings)]:
                if comes_of(claim, true):
                    self.assertIs(is_so(claim), True)
                    found += claim not in true
        self.assertGreater(found, 20)


def closed(given, every):
    """All of every that come of those given, by the rules one by one, again and again."""
    known = []
    more = list(given)
    while len(more) > len(known):
        known = list(more)
        for own in every:
            if own not in more and any([follows(own, *two) for two in itertools.product(known, repeat=2)]):
                more.append(own)
    return known


def follows(own, one, other):
    """Whether own comes by one rule of one and, maybe, other."""
    word = own[0]
    if word == "alike" and one[0] == "alike":
        return own == ("alike", one[2], one[1]) or (other[0] == "alike" and one[2] == other[1] and own == ("alike", one[1], other[2]))
    if word in ("steady", "comes") and one[0] == word and other[0] == "alike":
        return other[1] == one[1] and own == (word, other[2], *one[2:])
    if word == "comes" and one[0] == "steady":
        return own[1] == one[1] and one[2][own[2]] == own[3]
    if word == "keeps" and one[0] == "steady":
        return own[1] == one[2]
    if word == "stands" and one[0] == "stands":
        return (own[2] == one[2] and {*own[1]} <= {*one[1]}) or (own[1] == one[1] and worth(own[2]) > worth(one[2]))
    return word == "slides" and one[0] == "slides" and own[:4] == one[:4] and worth(own[4]) > worth(one[4])


class TestGreat(Calls):
    def test_sixteen_names(self):
        picked = random.Random(265)
        chart = sized(drawn_map(picked, 16), 10 ** 3)
        sides, ranking = by_rule(chart), drawn_row(picked, 16)
        book, every = book_of(chart, sides, ranking), tuple(range(16))
        claims = [("steady", chart, sides, ranking, book), ("keeps", chart, sides, book), ("keeps", chart, sides, ((0, 1),) * 16), ("alike", chart, sides, ranking, every)]
        claims += [("comes", chart, sides, ranking, name, book[name]) for name in every] + [("comes", chart, sides, every, name, (1, 7)) for name in every]
        claims += [("stands", chart, sides, every[:many], scale) for many in (3, 9, 16) for scale in ((1, 9), (10 ** 6, 1))]
        claims += [("slides", chart, sides, book, (1, 9), (10 ** 5, 1), most) for most in ((0, 1), (1, 10 ** 6), (10 ** 9, 1))]
        papers = [paper(own) for own in claims]
        for claim, word in zip(claims, verdicts(claims, papers)):
            self.assertEqual(word, "for" if is_so(claim) else "against")
        self.assertEqual(first_false(claims), [is_so(own) for own in claims].index(False))

    def test_what_is_returned_is_passed_in_again(self):
        far = 10 ** 30
        chart = spread(sized(ROW, far), 3)
        book = book_of(chart, LEFTS, ORDER)
        for claim in (
            ("comes", chart, LEFTS, ORDER, 1, book[1]), ("steady", chart, LEFTS, ORDER, book), ("stands", chart, LEFTS, (0, 1, 2), book[1]), ("keeps", chart, LEFTS, book),
            ("slides", chart, LEFTS, book, THIRD, (far, 1), (10 ** 40, 1)),
        ):
            self.told(True, is_so, claim)
            self.judged(is_paper_for, [paper(claim)], [None], claim)
        alike = ((4, 1, STILL, STILL),) * 2
        self.told((0, (0, 1)), paper, ("comes", alike, LEFTS[:2], (0, 1), 1, None))
