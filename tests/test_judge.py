"""[21.1] to [21.4]: claims and papers. What is a paper is worked out here by the words of the document."""

import random
import unittest
from fractions import Fraction

from hardbits.copies.chain import chain_answer
from hardbits.core.cores import core_answer
from hardbits.errors import HardError, InvalidClaim, TooMany
from hardbits.game.games import bound_answer
from hardbits.judge.answers import answered
from hardbits.judge.judge import is_claim, opposite, takes
from hardbits.near.dense import dense_answer, nearness_answer
from hardbits.words.draws import coupling_answer
from hardbits.words.sources import source_answer
from hardbits.words.strings import is_advice, string_answer
from tests.support import Case, DEEP, HUGE, JUNK, LONG
from tests.test_bits import predictors, some_tests
from tests.test_chain import DESIGNS as CHAIN_DESIGNS, SAME, chain_bound_by_words, chain_excess_by_words, chain_lines_by_words
from tests.test_cores import is_above, is_core, shares_for, some_cases as core_cases
from tests.test_dense import is_model, is_signed_above, some_cases as model_cases
from tests.test_draws import all_words, values
from tests.test_fractions import pair
from tests.test_games import column_pays, is_mix, row_pays, some_games
from tests.test_sources import excess_of, excesses, is_source, some_sources, tops, worst_by_words
from tests.test_strings import DESIGNS, RING, edges, excess_by_words, headless, led_by_words
from tests.test_truths import some_truths

ONES, TWO = (1, 1, 1), ((1, 1, -1), (1, -1, 1))
CLAIM, TWINS, EQUAL = ("core", ONES, TWO, (2, 3), (0, 1)), ((0, 1), (0, 1)), (1, 0, 0, 1)
PAIRS = (("core", "mix"), ("held", "beaten"), ("close", "apart"), ("model", "parted"), ("each", "some"), ("within", "beyond"), ("kept", "followed"))
OPPOSITE = dict(PAIRS + tuple((other, one) for one, other in PAIRS))


def is_coupling(one, other, s, paper):
    bottom, weights = paper
    points = range(len(one[1]))
    firsts = [sum(Fraction(weight, bottom) for (x, _), weight in weights.items() if x == point) for point in points]
    seconds = [sum(Fraction(weight, bottom) for (_, y), weight in weights.items() if y == point) for point in points]
    unlike = sum(Fraction(weight, bottom) for (x, y), weight in weights.items() if x != y)
    return firsts == values(one) and seconds == values(other) and unlike <= Fraction(*s)


def met_by_words(number, l, m, test):
    """How many of the 2 ** l seeds have bits that the test meets, if its excess is this number."""
    return (number + Fraction(sum(test), 2 ** m)) * 2 ** l


def string_number(members):
    l, design, test, _, string = members
    number = excess_by_words(l, design, test, string)
    return number, met_by_words(number, l, len(design), test)


def copies_number(members):
    truth, k, l, design, test = members[:5]
    number = chain_excess_by_words(truth, k, l, design, test)
    return number, met_by_words(number, l, len(design), test)


def is_within_of(members, paper):
    number, met = string_number(members)
    return paper == met and 2 * abs(number) <= len(members[1]) * Fraction(*members[3])


def is_beyond_of(members, paper):
    number, met = string_number(members)
    if paper[0] != met or 2 * abs(number) <= len(members[1]) * Fraction(*members[3]):
        return False
    return led_by_words(members[1], members[2], members[3], paper[1]) == members[4]


def is_kept_of(members, paper):
    number, met = copies_number(members)
    return paper == met and abs(number) <= chain_bound_by_words(len(members[3]), members[1], *members[5:])


def is_followed_of(members, paper):
    truth, k, l, design, test, d, e = members
    number, met = copies_number(members)
    if paper[0] != met or abs(number) <= chain_bound_by_words(len(design), k, d, e):
        return False
    return is_above(truth, chain_lines_by_words(truth, k, l, design, test, paper[1]), d, e, paper[2])


# Whether a paper of the right form is one for a claim of the kind with these members, by the words.
RIGHT = {
    "core": lambda members, paper: is_core(*members, paper),
    "mix": lambda members, paper: is_above(*members, paper),
    "held": lambda members, paper: is_mix(paper, len(members[0][1])) and min(row_pays(members[0], paper)) >= Fraction(*members[1]),
    "beaten": lambda members, paper: is_mix(paper, len(members[0][1][0])) and max(column_pays(members[0], paper)) < Fraction(*members[1]),
    "close": lambda members, paper: is_coupling(*members, paper),
    "apart": lambda members, paper: sum(values(members[0])[x] - values(members[1])[x] for x in paper) > Fraction(*members[2]),
    "model": lambda members, paper: is_model(*members, paper),
    "parted": lambda members, paper: is_signed_above(*members, paper),
    "each": lambda members, paper: (values(paper) == excesses(*members[:3])
                                    and worst_by_words(excesses(*members[:3]), members[3]) <= Fraction(*members[4])),
    "some": lambda members, paper: (is_source(paper, 2 ** len(members[1][0]), members[3])
                                    and abs(excess_of(excesses(*members[:3]), paper)) > Fraction(*members[4])),
    "within": is_within_of, "beyond": is_beyond_of, "kept": is_kept_of, "followed": is_followed_of,
}


def near(numbers, low=Fraction(0), high=Fraction(1)):
    """Numbers, and those a little below and above, as fractions within the bounds, some with long integers."""
    found = set(numbers)
    for number in numbers:
        found |= {number * Fraction(999, 1000), number * Fraction(1001, 1000), number - Fraction(1, LONG), number + Fraction(1, LONG)}
    return [pair(number) for number in sorted(found) if low <= number <= high]


def core_members(seed):
    for f, family in core_cases(seed, 12):
        for d in shares_for(len(f))[::3] + [(LONG - 1, LONG)]:
            for e in ((0, 1), (1, 1), (1, 3), (1, LONG), (LONG - 1, LONG)):
                yield f, family, d, e
    # The least edge is 1 / 5 for 5 / 6 (stage 4).
    yield from ((ONES, TWO, (5, 6), e) for e in near([Fraction(1, 5)]))


def game_members(seed):
    for table in some_games(seed, 12, 4):
        worth = bound_answer(table, (0, 1))
        pays = row_pays(table, worth[1]) if worth[0] == "rows" else column_pays(table, worth[1])
        for v in near(pays[:1] + [Fraction(0)], Fraction(-10 ** 10), Fraction(10 ** 10)):
            yield table, v
    long = (LONG, ((2 * LONG, -1, HUGE), (-LONG, LONG * LONG, 0)))
    yield from ((long, v) for v in ((0, 1), (1, 1), (LONG, HUGE), (2, 1), (-1, LONG), (-LONG, 1)))
    # The worth of this one is 6 / 5.
    yield from (((1, ((2, 0), (0, 3))), v) for v in near([Fraction(6, 5)], Fraction(-9), Fraction(9)))
    yield from (((LONG, ((2 * LONG, 0), (0, 3 * LONG))), v) for v in near([Fraction(6, 5)], Fraction(-9), Fraction(9)))


def draw_members(seed):
    source = random.Random(seed)
    for points in (1, 2, 3, 5, 64):
        for factor in (1, 3, LONG):
            draws = []
            for _ in range(2):
                counts = [source.choice((0, 1, 2, 3)) for _ in range(points)]
                counts[source.randrange(points)] += 1
                draws.append((sum(counts) * factor, tuple(number * factor for number in counts)))
            apart = sum(abs(a - b) for a, b in zip(values(draws[0]), values(draws[1]))) / 2
            for s in near([apart, Fraction(1, 2), Fraction(0), Fraction(1)]):
                yield draws[0], draws[1], s


def model_members(seed):
    for draw, family in model_cases(seed, 1, (1, 2, 4)):
        for d in shares_for(len(draw[1]))[::3]:
            v = Fraction(*nearness_answer(draw, family, d)[1])
            for e in near([v, Fraction(0), Fraction(1)]):
                yield draw, family, d, e
        yield draw, family, (LONG - 1, LONG), (1, LONG)


def source_members(seed):
    source = random.Random(seed)
    for l, design in DESIGNS[1:7]:
        for test in some_tests(source, len(design), 2):
            numbers = excesses(l, design, test)
            for top in tops(len(numbers))[::2] + [pair(Fraction(1, len(numbers)) + Fraction(1, LONG))]:
                for bound in near([worst_by_words(numbers, top), Fraction(1)]):
                    yield l, design, test, top, bound


def string_members(seed):
    source = random.Random(seed)
    for l, design in DESIGNS[:9]:
        for test in some_tests(source, len(design), 2):
            for string in all_words(len(design[0]))[:4]:
                for e in edges(l, design, test, string) + [(LONG - 1, LONG), (1, LONG)]:
                    yield l, design, test, e, string


def copies_members(seed):
    source = random.Random(seed)
    for n, k, l, design in CHAIN_DESIGNS:
        truth = tuple(source.choice((1, -1)) for _ in range(2 ** n))
        for test in some_tests(source, len(design), 2):
            at = 2 * abs(chain_excess_by_words(truth, k, l, design, test)) / len(design)
            for e in near([at, Fraction(1), Fraction(1, 9)]):
                yield truth, k, l, design, test, (1, 1), e
            yield truth, k, l, design, test, (LONG - 1, LONG), (1, LONG)


MEMBERS = {"core": core_members, "held": game_members, "close": draw_members, "model": model_members, "each": source_members,
           "within": string_members, "kept": copies_members}


def in_other_terms(kind, paper):
    """The same paper with longer integers, where its form lets them."""
    if kind in ("apart", "within", "kept", "beyond"):
        return paper
    if kind == "close":
        return (paper[0] * LONG, {two: weight * LONG for two, weight in paper[1].items()})
    if kind == "followed":
        return paper[:2] + (in_other_terms("mix", paper[2]),)
    return (paper[0] * LONG, tuple(number * LONG for number in paper[1]))


def bent_rows(paper):
    """Rows near to this one: a number moved from one place to another, one more or one less."""
    bottom, numbers = paper
    for k in range(len(numbers)):
        other = (k + 1) % len(numbers)
        moved = list(numbers)
        moved[k], moved[other] = moved[k] - 1, moved[other] + 1
        yield (bottom, tuple(moved))
        yield (bottom, numbers[:k] + (numbers[k] + 1,) + numbers[k + 1:])
    yield (bottom + 1, numbers)
    yield (2 * bottom, tuple(2 * number for number in numbers))
    yield (bottom, numbers[1:] + numbers[:1])
    yield (bottom, tuple(-number for number in numbers))


def bent(kind, members, paper):
    """Papers of the right form near to this one."""
    if kind in ("within", "kept"):
        yield from (paper - 1, paper + 1, -paper, 2 * paper, paper + HUGE, paper * LONG)
    elif kind == "beyond":
        l, design = members[:2]
        for near_advice in [head + (index,) for head in list(headless(design))[:40] for index in (0, 1, 31)]:
            yield (paper[0], near_advice)
        yield from ((paper[0] + 1, paper[1]), (paper[0] + LONG, paper[1]))
    elif kind == "followed":
        yield from ((paper[0] - 1,) + paper[1:], (paper[0] + LONG,) + paper[1:])
        for mix in bent_rows(paper[2]):
            yield paper[:2] + (mix,)
        for predictor in list(predictors(members[2], members[3]))[:12]:
            count = len(chain_lines_by_words(*members[:5], predictor))
            yield (paper[0], predictor, (count, (1,) * count))
    elif kind == "apart":
        points = range(len(members[0][1]))
        for point in points:
            yield tuple(x for x in paper if x != point)
            yield tuple(sorted(set(paper) | {point}))
    elif kind == "close":
        yield (paper[0] + 1, paper[1])
        for two, weight in list(paper[1].items())[:6]:
            yield (paper[0], {**paper[1], two: weight + 1})
            yield (paper[0], {other: paper[1][other] for other in paper[1] if other != two})
            turned = {other: paper[1][other] for other in paper[1] if other != two}
            turned[two[::-1]] = turned.get(two[::-1], 0) + weight
            yield (paper[0], turned)
    else:
        yield from bent_rows(paper)


class Claims(Case):

    def right_by_words(self, kind, members, paper):
        try:
            return bool(RIGHT[kind](members, paper))
        except (IndexError, ValueError):
            # A bent row that is no mix, or has numbers below 0 where the words take none.
            return False

    def check_all(self, first):
        """Checks for the drawn claims of a kind and its opposite that just one of both has a paper."""
        counts = {first: 0, OPPOSITE[first]: 0}
        previous = None
        for members in MEMBERS[first](len(first)):
            claim, other = (first,) + members, (OPPOSITE[first],) + members
            self.assertIs(is_claim(claim), True, claim)
            self.assertIs(is_claim(other), True)
            self.assertEqual((opposite(claim), opposite(other)), (other, claim))
            true, paper = answered(claim)
            kind = true[0]
            counts[kind] += 1
            self.assertEqual(true[1:], members)
            self.assertEqual(answered(other)[0], true)
            self.assertTrue(RIGHT[kind](members, paper), (true, paper))
            for form in (paper, in_other_terms(kind, paper), answered(other)[1]):
                self.assertIs(takes(true, form), True, (true, form))
                # Never one paper for both.
                self.assertIs(takes(opposite(true), form), False, (true, form))
            for form in list(bent(kind, members, paper))[:30]:
                self.assertIs(takes(true, form), self.right_by_words(kind, members, form), (true, form))
            if previous is not None and previous[0] == kind:
                # A paper of another claim is none for this one, or right by the words, too.
                self.assertIs(takes(true, previous[1]), self.fits(kind, members, previous))
            previous = (kind, paper, members)
        self.assertGreater(min(counts.values()), 10, counts)

    def fits(self, kind, members, previous):
        """Whether the paper of another claim of the kind is right for these members."""
        _, paper, others = previous
        if kind in ("core", "mix", "held", "beaten", "model", "parted", "each", "some"):
            length = {"core": lambda m: len(m[0]), "mix": lambda m: len(m[1]), "held": lambda m: len(m[0][1]), "beaten": lambda m: len(m[0][1][0]),
                      "model": lambda m: len(m[0][1]), "parted": lambda m: 2 * len(m[1])}.get(kind, lambda m: 2 ** len(m[1][0]))
            if length(members) != len(paper[1]):
                return False
        if kind in ("close", "apart") and len(others[0][1]) != len(members[0][1]):
            return False
        if kind == "beyond" and not is_advice(members[0], members[1], paper[1]):
            return False
        if kind == "followed" and (members[1:4] != others[1:4] or len(members[0]) != len(others[0])):
            return False
        if kind == "followed" and len(chain_lines_by_words(*members[:5], paper[1])) != len(paper[2][1]):
            return False
        return self.right_by_words(kind, members, paper)

    def test_cores_and_mixes(self):
        self.check_all("core")

    def test_games(self):
        self.check_all("held")

    def test_draws(self):
        self.check_all("close")

    def test_models(self):
        self.check_all("model")

    def test_sources(self):
        self.check_all("each")

    def test_strings(self):
        self.check_all("within")

    def test_copies(self):
        self.check_all("kept")


class Papers(Case):

    def judged_paper(self, claim, right, wrong=()):
        self.judged(takes, (claim,), right, tuple(wrong))

    def test_cores(self):
        cores = ((2, (0, 2, 2)), (1, (0, 1, 1)), (LONG, (0, LONG, LONG)))
        mixes = ((2, (1, 1)), (3, (2, 1)), (2 * LONG, (LONG, LONG)))
        self.judged_paper(CLAIM, cores, mixes + ((2, (1, 1, 2)), (2, (1, 2, 2)), (3, (0, 2, 2)), (1, (2, 0, 0)), (4, (5, 1, 2)), (1, (0, 1)), (1, (0, 1, 1, 0)), (0, (0, 0, 0))))
        self.judged_paper(("mix", ONES, TWO, (1, 1), (1, 4)), mixes + ((1, (1, 0)),), ((2, (2, 1)), (1, (2, -1)), (1, (1, 0, 0)), (2, (0, 2, 2))))
        # The sum is 1 with each mix: just at e d N no mix is above.
        self.judged_paper(("mix", ONES, TWO, (1, 1), (1, 3)), (), mixes)

    def test_games(self):
        table = (1, ((2, 0), (0, 3)))
        long = (LONG, ((2 * LONG, 0), (0, 3 * LONG)))
        rows, columns = ((5, (3, 2)), (5 * LONG, (3 * LONG, 2 * LONG))), ((5, (3, 2)), (10, (6, 4)))
        for game in (table, long):
            # At the worth a mix of rows has it just at each column, no mix of columns is below it.
            self.judged_paper(("held", game, (6, 5)), rows, ((2, (1, 1)), (1, (1, 0)), (5, (2, 3)), (5, (3, 3)), (5, (6, -1)), (1, (1,))))
            self.judged_paper(("beaten", game, (6, 5)), (), columns)
            self.judged_paper(("beaten", game, (6 * LONG + 1, 5 * LONG)), columns, ((2, (1, 1)), (1, (0, 1)), (5, (4, 1))))

    def test_draws(self):
        one, other = (1, (1, 0)), (2, (1, 1))
        couplings = ((2, {(0, 0): 1, (0, 1): 1}), (2 * LONG, {(0, 0): LONG, (0, 1): LONG}))
        bad = ((2, {(0, 0): 1, (1, 0): 1}), (2, {(0, 0): 2}), (2, {(0, 0): 1, (0, 1): 1, (1, 1): 0}), (1, {(0, 0): 1, (0, 1): 1}), (2, {}), (0, {}), (2, {(0, 0): 1, (0, 2): 1}),
               (2, {(0, 0): 1, (0, -1): 1}), (2, {(0, 0): 1, (0, 1): 1, (1, 1): -1}), (2, {(0, 0): 1, 1: 1}), ((0,), (1,)), (2, ((0, 0), (0, 1))))
        self.judged_paper(("close", one, other, (1, 2)), couplings, bad + ((0,), (1,), (0, 1)))
        self.judged_paper(("apart", one, other, (1, 2)), (), couplings + bad + ((0,), (1,), (0, 1)))
        self.judged_paper(("apart", one, other, (LONG, 2 * LONG + 1)), ((0,),), couplings + bad + ((1,), (0, 1), (0, 0), (1, 0), (2,), (-1,), (0, HUGE)))

    def test_models(self):
        draw, sides, even = (1, (1, 0, 0, 0)), ((1, 1, -1, -1), (1, -1, 1, -1)), (2, (1, 1, 0, 0))
        models = ((2, (2, 1, 1, 0)), (2 * LONG, (2 * LONG, LONG, LONG, 0)))
        self.judged_paper(("model", draw, sides, (1, 2), (1, 2)), models, ((2, (2, 1, 0, 1)), (1, (2, 0, 0, 0)), (1, (1, 1, 0)), even))
        self.judged_paper(("parted", draw, sides, (1, 2), (1, 2)), (), (even,) + models)
        self.judged_paper(("parted", draw, sides, (1, 2), (LONG, 2 * LONG + 1)), (even, (2 * LONG, (LONG, LONG, 0, 0))), ((2, (1, 0, 0, 1)), (3, (1, 1, 0, 0)), (1, (0, 0, 1, 0)), (2, (1, 1, 0))) + models)

    def test_sources(self):
        pairs = ((0, 1), (1, 0))
        claim = ("each", 3, pairs, EQUAL, (1, 2), (1, 2))
        rows = ((2, (1, 0, 0, 1)), (4, (2, 0, 0, 2)), (2 * LONG, (LONG, 0, 0, LONG)))
        sources = ((1, (1, 0, 0, 0)), (2, (1, 0, 0, 1)), (2 * LONG, (LONG, 0, 0, LONG)))
        self.judged_paper(claim, rows[:1], ((2, (1, 0, 0, 0)), (1, (1, 0, 0, 1)), (2, (1, 0, 1)), (2, (-1, 0, 0, -1)), sources[0], (0, (0, 0, 0, 0))))
        for row in rows:
            self.assertIs(takes(claim, row), True)
            self.assertIs(takes(("each", 3, pairs, EQUAL, (1, 2), (1, 3)), row), row[1][0] * 3 <= row[0])
            self.assertIs(takes(opposite(claim), row), False)
        some = ("some", 3, pairs, EQUAL, (1, 2), (LONG, 2 * LONG + 1))
        self.judged_paper(some, sources[1:], ((4, (1, 1, 1, 1)), (1, (1, 0, 0, 0)), (4, (3, 0, 0, 1)), (2, (1, 1)), (2, (1, 0, 0, 0)), (2, (2, 0, 0, -1)), (4, (2, 1, 0, 1))))
        # A row of all excesses can be a source, too: of the claim, not as its paper.
        self.assertIs(takes(some, (2, (1, 0, 0, 1))), True)
        # Excesses below 0 count by their amounts.
        turned = tuple(1 - bit for bit in EQUAL)
        self.assertIs(takes(("some", 3, pairs, turned, (1, 2), (1, 3)), (2, (1, 0, 0, 1))), True)
        self.assertIs(takes(("each", 3, pairs, turned, (1, 2), (1, 2)), (2, (-1, 0, 0, -1))), True)

    def test_strings(self):
        within = ("within", 2, TWINS, EQUAL, (1, 2), (1, 1))
        self.judged_paper(within, (4,), (2, 3, 5, -4, 4 + HUGE, (4,), (4, (1, ((0, 1, 1, 0),), (), 0, 0)), (1, 2), ("within", (1, 2))))
        advice = (1, ((0, 1, 1, 0),), (), 0, 0)
        beyond = ("beyond", 2, TWINS, EQUAL, (1, 4), (1, 1))
        right = ((4, advice), (4, (1, ((0, 1, 1, 0),), (), 1, 0)), (4, (1, ((1, 0, 0, 1),), (), 0, 0)))
        wrong = ((3, advice), (4 + LONG, advice), (-4, advice), (4, advice[:4] + (1,)), (4, advice[:4] + (31,)), (4, advice[:4] + (32,)), (4, (1, ((0, 0, 1, 1),), (), 0, 0)), (4, advice, 0),
                 (4, advice[:4]), (4, (0, (), (0,), 0, 0)), advice, ("advice", advice), (4, (1, 1)))
        self.judged_paper(beyond, right, wrong + (4,))
        # Where the excess is within, an advice that leads to the string is no paper.
        self.assertEqual(string_answer(2, TWINS, EQUAL, (1, 2), (1, 1)), ("within", (1, 2)))
        for paper in right:
            self.assertIs(takes(opposite(within), paper), False)
        self.assertIs(takes(opposite(beyond), 4), False)
        # True is no number of seeds.
        one = ("within", 1, ((0,),), (0, 1), (1, 1), (1,))
        self.assertEqual([takes(one, paper) for paper in (1, True, (1,), 0, False, 2)], [True, False, False, False, False, False])
        none = ("within", 1, ((0,),), (0, 0), (1, 1), (1,))
        self.assertEqual([takes(none, paper) for paper in (0, False, None, ())], [True, False, False, False])

    def test_copies(self):
        kept = ("kept", (1, -1), 2, 2, SAME, EQUAL, (1, 1), (1, 2))
        self.judged_paper(kept, (4,), (3, 5, -4, (4,), HUGE, (1, 2)))
        road = (1, (), (), 0)
        followed = ("followed", (1, -1), 2, 2, SAME, EQUAL, (1, 1), (1, 4))
        right = ((4, road, (1, (0, 1))), (4, road, (3, (1, 2))), (4, road, (3 * LONG, (LONG, 2 * LONG))))
        wrong = ((4, road, (1, (1, 0))), (4, road, (2, (1, 1))), (3, road, (1, (0, 1))), (4 + LONG, road, (1, (0, 1))), (4, road, (3, (1, 1))), (4, road, (1, (0, 1, 0))), (4, road, (1, (-1, 2))),
                 (4, (1, (), (), 2), (1, (0, 1))), (4, (2, (), (), 0), (1, (0, 1))), (4, road), (4, road, (1, (0, 1)), 0), ("mix", road, (1, (0, 1))), (road, (1, (0, 1))))
        self.judged_paper(followed, right, wrong + (4,))
        for paper in right:
            self.assertIs(takes(opposite(kept), paper), False)
        self.assertIs(takes(opposite(followed), 4), False)

    def test_papers_do_not_serve_other_kinds(self):
        claims = [CLAIM, ("mix", ONES, TWO, (1, 1), (1, 4)), ("held", (1, ((2, 0), (0, 3), (1, 1))), (6, 5)), ("close", (1, (1, 0)), (2, (1, 1)), (1, 2)),
                  ("apart", (1, (1, 0)), (2, (1, 1)), (1, 3)), ("beyond", 2, TWINS, EQUAL, (1, 4), (1, 1)), ("followed", (1, -1), 2, 2, SAME, EQUAL, (1, 1), (1, 4)),
                  ("within", 3, RING, (1, 0, 0, 1, 0, 1, 1, 0), (1, 1), (1, 1))]
        papers = [answered(claim)[1] for claim in claims]
        for k, claim in enumerate(claims):
            for j, paper in enumerate(papers):
                self.assertIs(takes(claim, paper), j == k, (claim, paper))


class Forms(Case):

    RIGHT = (CLAIM, ("mix", (1,), ((1,),), (1, LONG), (1, 1)), ("core", (1,) * 32, ((1,) * 32,) * 256, (1, 1), (LONG - 1, LONG)), ("held", (1, ((1, -1), (-1, 1))), (0, 1)),
             ("beaten", (LONG, ((LONG,) * 32,) * 24), (-LONG, HUGE)), ("close", (1, (1,)), (LONG, (LONG,)), (0, 1)), ("apart", (64, (1,) * 64), (1, (1,) + (0,) * 63), (1, 1)),
             ("model", (1, (1,)), ((1,),), (1, 1), (0, 1)), ("parted", (32, (1,) * 32), ((1,) * 32,), (1, HUGE), (1, 1)), ("each", 12, ((0,),) * 6, (0,) * 64, (1, 2), (0, 1)),
             ("some", 5, ((4, 3, 2, 1, 0),), (0, 1), (1, 32), (1, 1)), ("within", 1, ((0,),), (0, 1), (1, LONG), (0,)), ("beyond", 2, TWINS, EQUAL, (1, 1), (1, 0)),
             ("kept", (1, 1), 3, 3, ((0, 1, 2),), (0, 1), (1, 1), (0, 1)), ("followed", (1,) * 8, 2, 6, ((0, 1, 2, 3, 4, 5),), (1, 0), (1, LONG), (1, 1)))

    def wrong_claims(self):
        yield from JUNK
        yield from (("core", ONES), ("CORE",) + CLAIM[1:], ("cores",) + CLAIM[1:], CLAIM + (0,), CLAIM[1:], list(CLAIM), ("",) + CLAIM[1:], (None,) + CLAIM[1:], (("core",),) + CLAIM[1:],
                    (["core"],) + CLAIM[1:], ({},) + CLAIM[1:], (b"core",) + CLAIM[1:], "core", ("core", ONES, TWO, (2, 3), (0, 1), (0, 1)), (HardError("core"),) + CLAIM[1:])
        for kind in OPPOSITE:
            yield (kind,)
            for right in self.RIGHT:
                # The members of another kind, unless it is the opposite.
                if kind not in (right[0], OPPOSITE[right[0]]):
                    yield (kind,) + right[1:]
        for right in self.RIGHT:
            for k in range(1, len(right)):
                yield right[:k] + right[k + 1:]
                yield right[:k] + right[k:k + 1] + right[k:]
                for wrong in (None, True, (), -1, LONG, "1", DEEP, (0, 0), (1, 0), (2, 4), (-1, 2), (LONG + 1, LONG), (1, True), ((1, 1), (1,)), {}):
                    if not self.is_let(right, k, wrong):
                        yield right[:k] + (wrong,) + right[k + 1:]

    def is_let(self, right, k, wrong):
        """Whether this member is right there: a fraction for the worth of a game, a test of one bit, a string of two."""
        if right[0] in ("held", "beaten"):
            return k == 2 and wrong in ((-1, 2), (LONG + 1, LONG))
        if wrong not in ((0, 0), (1, 0)):
            return False
        tests = {"each": 3, "some": 3, "within": 3, "beyond": 3, "kept": 5, "followed": 5}
        return (k == tests.get(right[0]) and len(right[k]) == 2) or (right[0] in ("within", "beyond") and k == 5 and len(right[5]) == 2)

    def test_claims(self):
        for claim in self.RIGHT:
            self.assertIs(is_claim(claim), True, claim)
            self.assertIs(is_claim((OPPOSITE[claim[0]],) + claim[1:]), True)
            self.assertEqual(opposite(claim), (OPPOSITE[claim[0]],) + claim[1:])
            self.assertEqual(opposite(opposite(claim)), claim)
        self.assertEqual(len(OPPOSITE), 14)

    def test_wrong_claims(self):
        count = 0
        for value in self.wrong_claims():
            count += 1
            self.assertIs(is_claim(value), False, value)
            self.fails(InvalidClaim, opposite, value)
            self.fails(InvalidClaim, takes, value, DEEP)
            self.fails(InvalidClaim, answered, value)
        self.assertGreater(count, 500)

    def test_misshapen_claims(self):
        short = [claim for claim in self.RIGHT if len(repr(claim)) < 1500]
        self.assertGreater(len(short), 8)
        self.judged(is_claim, (), tuple(short))

    def test_bounds_of_members(self):
        """Members at their bounds, and a little beyond them."""
        def claims(*changes):
            for claim, k, let, barred in changes:
                for value in let:
                    yield True, claim[:k] + (value,) + claim[k + 1:]
                for value in barred:
                    yield False, claim[:k] + (value,) + claim[k + 1:]
        model, close = ("model", (1, (1, 0)), ((1, 1),), (1, 2), (1, 2)), ("close", (1, (1, 0)), (2, (1, 1)), (1, 2))
        each, within = ("each", 3, ((0, 1), (1, 2)), EQUAL, (1, 2), (1, 2)), ("within", 3, ((0, 1), (1, 2)), EQUAL, (1, 2), (1, 1))
        kept = ("kept", (1, -1, 1, 1), 1, 2, SAME, EQUAL, (1, 1), (1, 2))
        shares, units = ((1, LONG), (LONG - 1, LONG), (1, 1)), ((0, 1), (1, LONG), (1, 1))
        no_shares, no_units = ((0, 1), (-1, LONG), (LONG + 1, LONG), (2, 1), (2, 2)), ((-1, LONG), (LONG + 1, LONG), (2, 1), (0, 2))
        wanted = claims(
            (CLAIM, 1, ((1, -1, 1),), ((1, 1), (1, 1, 1, 1), (1, 1, 0), (1,) * 33)), (CLAIM, 2, (((1, 1, 1),) * 256,), (((1, 1, 1),) * 257, (), ((1, 1),))), (CLAIM, 3, shares, no_shares), (CLAIM, 4, units, no_units),
            (("held", (1, ((1,),)), (0, 1)), 1, ((1, ((1,) * 32,) * 24), (LONG, ((-LONG,),))), ((1, ((1,) * 33,)), (1, ((1,),) * 25), (0, ((1,),)), (1, ((1,), (1, 2))), (1, ()), (1, ((),)), (-LONG, ((1,),)))),
            (("held", (1, ((1,),)), (0, 1)), 2, ((0, 1), (-LONG, 1), (LONG, LONG - 1)), ((0, 2), (1, 0), (1, -1), (2, 4), 0)),
            (close, 1, ((LONG, (LONG - 1, 1)),), ((1, (1,)), (1, (1, 0, 0)), (2, (1, 0)), (1, (2, -1)))), (close, 2, ((1, (0, 1)),), ((1, (1,)), (1, (1, 0, 0)))), (close, 3, units, no_units),
            (("close", (65, (1,) * 65), (65, (1,) * 65), (1, 2)), 3, (), ((1, 2),)),
            (model, 1, ((LONG, (1, LONG - 1)),), ((1, (1,)), (1, (1, 0, 0)), (2, (1, 0)))), (model, 2, (((1, -1),) * 256,), (((1, -1),) * 257, ((1,),), ((1, 1, 1),))), (model, 3, shares, no_shares), (model, 4, units, no_units),
            (("model", (33, (1,) * 33), ((1,) * 33,), (1, 2), (1, 2)), 3, (), ((1, 2),)), (("core", (), ((),), (1, 2), (1, 2)), 3, (), ((1, 2),)),
            (("close", (1, ()), (1, ()), (1, 2)), 3, (), ((1, 2),)), (("model", (1, ()), ((),), (1, 2), (1, 2)), 3, (), ((1, 2),)),
            (("kept", (1, -1), 4, 4, ((0, 1, 2, 3),), (0, 1), (1, 1), (1, 2)), 2, (), (4,)), (("kept", (1,), 1, 2, ((),), (0, 1), (1, 1), (1, 2)), 2, (), (1,)),
            (each, 1, (3, 12), (0, 2, 13, True, LONG)), (each, 2, (((0, 1), (0, 1)),), (((0, 1),), ((0, 0), (1, 2)), ((0, 1), (1, 3)), ((0, 1), (2,)))), (each, 3, ((0, 0, 0, 0),), ((0, 1), (0,) * 8, (0, 0, 0, 2))),
            (each, 4, ((1, 4), (1, 1), (LONG, 4 * LONG - 1)), ((1, 5), (LONG, 4 * LONG + 1), (LONG + 1, LONG), (0, 1), (2, 1))), (each, 5, units, no_units),
            (("each", 12, (tuple(range(6)),), (0, 1), (1, 1), (1, 2)), 1, (), (12,)), (within, 1, (3, 12), (0, 2, 13)), (within, 4, shares, no_shares), (within, 5, ((0, 0),), ((0,), (0, 0, 0), (0, 2), [0, 0])),
            (("within", 12, (tuple(range(6)),), (0, 1), (1, 1), (0,) * 6), 1, (), (12,)), (within, 3, ((1, 1, 1, 1),), ((0, 1), (0,) * 8)),
            (kept, 1, ((-1, -1, -1, -1),), ((1,), (1, 1), (1, 1, 1), (1,) * 8, (1,) * 16, (1, 1, 1, 0))), (kept, 2, (1,), (0, 2, 3, 4, True, LONG)), (kept, 3, (2, 12), (0, 1, 13)),
            (kept, 4, (((1, 0), (0, 1)),), (((0,), (1,)), ((0, 1),), ((0, 2), (0, 1)))), (kept, 5, ((0, 0, 0, 1),), ((0, 1), (0,) * 8)), (kept, 6, shares, no_shares), (kept, 7, units, no_units))
        for told, claim in wanted:
            for value in (claim, (OPPOSITE[claim[0]],) + claim[1:]):
                self.assertIs(is_claim(value), told, value)
                if told:
                    answered(value) if len(repr(value)) < 3000 else None
                else:
                    self.fails(InvalidClaim, answered, value)


class Answers(Case):

    def test_as_the_told_stages_answer(self):
        core, game = core_answer(ONES, TWO, (5, 6), (1, 5)), bound_answer((1, ((2, 0), (0, 3))), (5, 4))
        self.assertEqual(answered(("mix", ONES, TWO, (5, 6), (1, 5)))[0][0], core[0])
        self.assertEqual((answered(("held", (1, ((2, 0), (0, 3))), (5, 4)))[0][0], game[0]), ("beaten", "columns"))
        self.assertEqual((answered(("apart", (1, (1, 0)), (2, (1, 1)), (1, 2)))[0][0], coupling_answer((1, (1, 0)), (2, (1, 1)), (1, 2))[0]), ("close", "coupling"))
        sides = ((1, 1, -1, -1), (1, -1, 1, -1))
        self.assertEqual((answered(("model", (1, (1, 0, 0, 0)), sides, (1, 2), (1, 3)))[0][0], dense_answer((1, (1, 0, 0, 0)), sides, (1, 2), (1, 3))[0]), ("parted", "mix"))
        pairs = ((0, 1), (1, 0))
        self.assertEqual(answered(("some", 3, pairs, EQUAL, (1, 2), (1, 2))), (("each", 3, pairs, EQUAL, (1, 2), (1, 2)), source_answer(3, pairs, EQUAL, (1, 2), (1, 2))[1]))
        self.assertEqual(answered(("beyond", 2, TWINS, EQUAL, (1, 2), (1, 1))), (("within", 2, TWINS, EQUAL, (1, 2), (1, 1)), 4))
        true, (number, advice) = answered(("within", 2, TWINS, EQUAL, (1, 4), (1, 1)))
        self.assertEqual((true[0], number, led_by_words(TWINS, EQUAL, (1, 4), advice)), ("beyond", 4, (1, 1)))
        true, (number, predictor, mix) = answered(("kept", (1, -1), 2, 2, SAME, EQUAL, (1, 1), (1, 4)))
        self.assertEqual((true[0], number, chain_answer((1, -1), 2, 2, SAME, EQUAL, (1, 1), (1, 4))[0]), ("followed", 4, "mix"))

    def test_limits(self):
        """Just 2048 and more for the kinds that have the limit, no limit for the others."""
        for points, tests in ((32, 64), (8, 256), (16, 128)):
            f, family = (1,) * points, tuple(some_truths(points, tests, points))
            true, paper = answered(("core", f, family, (1, 2), (1, 2)))
            self.assertIs(takes(true, paper), True)
        for points, tests in ((32, 65), (9, 228), (31, 67)):
            f, family = (1,) * points, tuple(some_truths(points, tests, points))
            for kind in ("core", "mix"):
                self.fails_for(TooMany, 2048, answered, (kind, f, family, (1, 2), (1, 2)))
                self.assertIs(is_claim((kind, f, family, (1, 2), (1, 2))), True)
            self.assertIs(takes(("core", f, family, (1, 1), (1, 1)), (1, (1,) * points)), True)
        for points, tests in ((32, 32), (4, 256)):
            draw, family = (1, (1,) + (0,) * (points - 1)), tuple(some_truths(points, tests, points))
            true, paper = answered(("parted", draw, family, (1, 2), (1, 2)))
            self.assertIs(takes(true, paper), True)
        for points, tests in ((32, 33), (5, 205)):
            draw, family = (points, (1,) * points), tuple(some_truths(points, tests, points))
            for kind in ("model", "parted"):
                self.fails_for(TooMany, 2048, answered, (kind, draw, family, (1, 2), (1, 2)))
            self.assertIs(takes(("model", draw, family, (1, 1), (0, 1)), (1, (1,) * points)), True)
        source = random.Random(40)
        game = (1, tuple(tuple(source.randint(-9, 9) for _ in range(32)) for _ in range(24)))
        design = tuple(tuple(source.sample(range(12), 6)) for _ in range(6))
        test = tuple(source.randint(0, 1) for _ in range(64))
        draw = (64, (1,) * 64)
        five = tuple(places[:5] for places in design)
        for claim in (("held", game, (0, 1)), ("close", draw, (1, (1,) + (0,) * 63), (1, 2)), ("each", 12, five, test, (1, 32), (1, 9)), ("within", 12, five, test, (1, 99), (1,) * 5),
                      ("kept", some_truths(41, 1, 8)[0], 2, 12, design, test, (1, 2), (1, 9)), ("kept", (1, -1), 3, 12, tuple(places[:3] for places in design), test, (1, 1), (0, 1))):
            true, paper = answered(claim)
            self.assertTrue(RIGHT[true[0]](true[1:], paper))
            self.assertIs(takes(true, paper), True)
            self.assertIs(takes(opposite(true), paper), False)

    def test_wrong_claims_come_ahead_of_the_limit(self):
        family = tuple(some_truths(50, 65, 32))
        for kind in ("core", "mix"):
            self.fails(InvalidClaim, answered, (kind, (1,) * 32, family, (1, 2), (3, 2)))

    def test_long_claims(self):
        source = random.Random(51)
        table = (LONG, tuple(tuple(source.randint(-LONG, LONG) for _ in range(4)) for _ in range(4)))
        for v in ((0, 1), (1, LONG), (-1, 2)):
            true, paper = answered(("held", table, v))
            self.assertTrue(RIGHT[true[0]](true[1:], paper))
            self.assertIs(takes(true, paper), True)
        weights = [source.randint(0, LONG) for _ in range(5)]
        draw, family = (sum(weights), tuple(weights)), tuple(some_truths(52, 4, 5))
        true, paper = answered(("model", draw, family, (LONG, 2 * LONG + 1), (1, LONG)))
        self.assertTrue(RIGHT[true[0]](true[1:], paper))
        self.assertIs(takes(true, paper), True)
        for claim in (("core", (1, -1, 1), TWO, (LONG - 1, LONG), (1, HUGE)), ("close", draw, (5, (1,) * 5), (HUGE, 3 * HUGE + 1))):
            true, paper = answered(claim)
            self.assertTrue(RIGHT[true[0]](true[1:], paper))

    def test_sources_of_drawn_weights(self):
        pairs = ((0, 1), (1, 0))
        for source in some_sources(53, 4, 40):
            for top in ((1, 2), (1, 3), (1, 1)):
                for bound in ((1, 4), (1, 3), (0, 1)):
                    members = (3, pairs, EQUAL, top, bound)
                    self.assertIs(takes(("some",) + members, source), RIGHT["some"](members, source))


class NotTrue(Case):
    """[21.4]."""

    def test_a_paper_can_serve_several_claims(self):
        paper = (2, (0, 2, 2))
        self.assertIs(takes(CLAIM, paper), True)
        self.assertIs(takes(("core", ONES, TWO, (2, 3), (1, 2)), paper), True)
        # Even of another kind: for instance a core that is a model, too.
        self.assertIs(takes(("model", (3, (1, 1, 1)), TWO, (2, 3), (1, 1)), paper), True)

    def test_not_each_claim_with_e_of_1_is_true(self):
        for claim in (("mix", ONES, TWO, (1, 1), (1, 1)), ("parted", (1, (1,)), ((1,),), (1, 1), (1, 1)), ("beyond", 2, TWINS, EQUAL, (1, 1), (1, 1)),
                      ("followed", (1, -1), 2, 2, SAME, EQUAL, (1, 1), (1, 1))):
            self.assertEqual(answered(claim)[0][0], OPPOSITE[claim[0]])


if __name__ == "__main__":
    unittest.main()
