"""Stage 6: rounds that take good tests until a vote or a core is there."""

from hardbits.base.checks import need_fraction_between, need_share
from hardbits.base.exact import dot, lowest_row, reduced
from hardbits.base.kinds import is_answer, is_indices, is_row_within, is_tuple_of
from hardbits.core.needs import need_for_core, need_truth_and_family
from hardbits.errors import InvalidOperation, TooMany

_MOST_TAKEN = 4096


def _need_taken(taken, family):
    if not is_indices(taken, len(family)) or len(taken) > _MOST_TAKEN:
        raise InvalidOperation("not a tuple of at most 4096 indices of tests")


def _need_for_run(truth, family, d, e, c):
    need_for_core(truth, family, d, e)
    need_share(c)


def _need_for_round(truth, family, taken, d, e, c):
    need_truth_and_family(truth, family)
    _need_taken(taken, family)
    need_share(d)
    need_fraction_between(e, 0, 1)
    need_share(c)


def _most_rounds(d, c):
    return (4 * (c[1] * d[1]) * (c[1] * d[1]) - 1) // ((c[0] * d[0]) * (c[0] * d[0]))


def most_rounds(d, c):
    """The greatest integer below 4 / (c c d d)."""
    need_share(d)
    need_share(c)
    return _most_rounds(d, c)


def _votes(truth, family, taken):
    """At each point its sign times the sum of the taken tests' signs."""
    often = [0] * len(family)
    for index in taken:
        often[index] += 1
    columns = list(zip(*family))
    return [sign * dot(often, column) for sign, column in zip(truth, columns)]


def _heights_of(votes, rounds, e):
    """The heights behind so many rounds, times the bottom of e."""
    return [vote * e[1] - rounds * e[0] for vote in votes]


def heights(truth, family, taken, e):
    """The row of all heights behind the taken tests."""
    need_truth_and_family(truth, family)
    _need_taken(taken, family)
    need_fraction_between(e, 0, 1)
    return lowest_row(e[1], _heights_of(_votes(truth, family, taken), len(taken), e))


def _weights_of(above, d, e, c):
    """The row of the weights at points with these heights, times the bottom of e."""
    bottom = 4 * c[1] * d[1] * e[1]
    return (bottom, [min(bottom, max(0, bottom - c[0] * d[0] * height)) for height in above])


def weights_at(truth, family, taken, d, e, c):
    """The row of all weights behind the taken tests."""
    _need_for_round(truth, family, taken, d, e, c)
    above = _heights_of(_votes(truth, family, taken), len(taken), e)
    bottom, weights = _weights_of(above, d, e, c)
    return lowest_row(bottom, weights)


def falls(truth, family, taken, d, e, c):
    """The sum of the falls of all points."""
    _need_for_round(truth, family, taken, d, e, c)
    above = _heights_of(_votes(truth, family, taken), len(taken), e)
    bottom, weights = _weights_of(above, d, e, c)
    top, under = 2 * c[1] * d[1], c[0] * d[0]
    # At heights up to 0 the weight is 1, so that the one formula serves there, too.
    squares = top * dot(weights, weights) * e[1]
    sunk = sum([max(0, -height) for height in above]) * under * bottom * bottom
    return reduced(squares + sunk, under * bottom * bottom * e[1])


class Round:
    """The weights behind some taken tests, and what they tell of the tests."""

    def __init__(self, truth, family, votes, rounds, d, e, c):
        self.truth = truth
        self.family = family
        self.d = d
        self.row = _weights_of(_heights_of(votes, rounds, e), d, e, c)
        self.gains = [sign * weight for sign, weight in zip(truth, self.row[1])]
        self.total = sum(self.row[1])
        # A good test has a sum above (e + c) times that of the weights.
        self.scale = e[1] * c[1]
        self.bound = (e[0] * c[1] + c[0] * e[1]) * self.total

    def is_vote(self):
        """Whether the weights add up to less than d N."""
        return self.total * self.d[1] < self.d[0] * len(self.truth) * self.row[0]

    def is_good(self, index):
        """Whether the test is good, if the round is no vote."""
        return dot(self.gains, self.family[index]) * self.scale > self.bound

    def first_good(self):
        """The index of the first good test, or None."""
        for index in range(len(self.family)):
            if self.is_good(index):
                return index
        return None

    def measure(self):
        """The weights times d N, divided by their sum."""
        size = self.d[0] * len(self.truth)
        return lowest_row(self.total * self.d[1], [weight * size for weight in self.row[1]])


def next_of(truth, family, taken, d, e, c):
    """What comes behind the taken tests: the vote, the good tests, or the core."""
    _need_for_round(truth, family, taken, d, e, c)
    now = Round(truth, family, _votes(truth, family, taken), len(taken), d, e, c)
    if now.is_vote():
        return ("vote",)
    good = [index for index in range(len(family)) if now.is_good(index)]
    if good:
        return ("tests", tuple(good))
    return ("core", now.measure())


def _need_few_rounds(d, c):
    if _most_rounds(d, c) > _MOST_TAKEN:
        raise TooMany(_MOST_TAKEN)


def _with_vote(truth, votes, test):
    return [vote + sign * told for vote, sign, told in zip(votes, truth, test)]


def run(truth, family, d, e, c):
    """A pair of tests, each good when it is taken, and of the end to which they lead."""
    _need_for_run(truth, family, d, e, c)
    _need_few_rounds(d, c)
    taken, votes = [], [0] * len(truth)
    now = Round(truth, family, votes, 0, d, e, c)
    while not now.is_vote():
        index = now.first_good()
        if index is None:
            return (tuple(taken), ("core", now.measure()))
        taken.append(index)
        votes = _with_vote(truth, votes, family[index])
        now = Round(truth, family, votes, len(taken), d, e, c)
    return (tuple(taken), ("vote",))


def _is_end(now, value):
    """Whether the value is the end that the round tells, the measure in any terms."""
    if now.is_vote():
        return is_answer(value, "vote", 1)
    if now.first_good() is not None or not is_answer(value, "core", 2):
        return False
    points = len(now.truth)
    return is_row_within(value[1], points, points) and lowest_row(value[1][0], value[1][1]) == now.measure()


def is_run(truth, family, d, e, c, value):
    """Whether the value is such a pair."""
    _need_for_run(truth, family, d, e, c)
    _need_few_rounds(d, c)
    if not is_tuple_of(value, 2) or not is_indices(value[0], len(family)):
        return False
    votes = [0] * len(truth)
    now = Round(truth, family, votes, 0, d, e, c)
    for rounds, index in enumerate(value[0]):
        if now.is_vote() or not now.is_good(index):
            return False
        votes = _with_vote(truth, votes, family[index])
        now = Round(truth, family, votes, rounds + 1, d, e, c)
    return _is_end(now, value[1])
