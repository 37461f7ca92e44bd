"""Stage 17: dense models of draws, and the signed mixes that bar them."""

from hardbits.base.checks import need_draw, need_family_on, need_fraction_between, need_mix, need_share
from hardbits.base.exact import by, dot, minus, ordered, over, reduced
from hardbits.base.kinds import is_answer, is_family_anywhere, is_lowest_pair, is_mix, is_mix_within
from hardbits.base.margins import size_of
from hardbits.base.models import difference_of, is_model_of, is_signed_above, signed_row_of
from hardbits.core.edges import least_greatest
from hardbits.core.needs import need_little_work
from hardbits.errors import InvalidDraw, InvalidFamily, InvalidOperation

_MOST_POINTS = 32


def _need_draw(draw):
    if not is_mix_within(draw, 1, _MOST_POINTS):
        raise InvalidDraw("not a draw on 1 to 32 points")


def _need_for_share(draw, family, d):
    _need_draw(draw)
    need_family_on(family, len(draw[1]))
    need_share(d)


def _need_for_model(draw, family, d, e):
    _need_for_share(draw, family, d)
    need_fraction_between(e, 0, 1)


def need_little_signed_work(draw, family):
    """Raises if the signed tests, times the points, are too many for a linear program."""
    need_little_work(2 * len(family), len(draw[1]))


def nearest(draw, family, d):
    """The nearness, a model for it, and a signed mix that shows that none is nearer, for right values."""
    # The measure's sum with a test's opposite, and the draw's with the test, come to how far the draw is ahead there.
    opposites = [tuple([-sign for sign in test]) for test in family]
    lines = opposites + list(family)
    offsets = [-dot(draw[1], line) for line in lines]
    return least_greatest(lines, offsets, draw[0], size_of(len(draw[1]), d))


def model_or_mix(draw, family, d, e):
    """A model for e, or a signed mix with a difference above e, for values that are known to be right."""
    v, w, mix = nearest(draw, family, d)
    if ordered(v, e) <= 0:
        return ("model", w)
    return ("mix", mix)


def dense_answer(draw, family, d, e):
    """A model for e, or a signed mix with a difference above e."""
    _need_for_model(draw, family, d, e)
    need_little_signed_work(draw, family)
    return model_or_mix(draw, family, d, e)


def is_dense_answer(draw, family, d, e, value):
    """Whether the value is such a model, or such a mix."""
    _need_for_model(draw, family, d, e)
    if is_answer(value, "model", 2):
        return is_model_of(draw, family, d, e, value[1])
    if is_answer(value, "mix", 2):
        return is_signed_above(draw, family, d, e, value[1])
    return False


def nearness_answer(draw, family, d):
    """The nearness, a model for it, and a signed mix with this difference."""
    _need_for_share(draw, family, d)
    need_little_signed_work(draw, family)
    v, w, mix = nearest(draw, family, d)
    return ("near", v, w, mix)


def is_nearness_answer(draw, family, d, value):
    """Whether the value is the nearness with such a model and such a mix."""
    _need_for_share(draw, family, d)
    if not is_answer(value, "near", 4):
        return False
    _, v, w, mix = value
    if not is_lowest_pair(v) or not is_mix(mix, 2 * len(family)):
        return False
    return is_model_of(draw, family, d, v, w) and difference_of(draw, family, d, mix) == v


def signed_row(family, mix):
    """The row of a signed mix, in least terms."""
    if not is_family_anywhere(family, _MOST_POINTS):
        raise InvalidFamily("not a family")
    need_mix(mix, 2 * len(family))
    return signed_row_of(family, mix)


def difference(draw, family, d, mix):
    """How far the mix goes with the draw, more than with any measure of the share."""
    _need_for_share(draw, family, d)
    need_mix(mix, 2 * len(family))
    return difference_of(draw, family, d, mix)


def _is_part_of(draw, other, d):
    return all(d[0] * number * other[0] <= d[1] * told * draw[0] for number, told in zip(draw[1], other[1]))


def is_part(draw, other, d):
    """Whether the draw, times d, is at most the other one at each point."""
    _need_draw(draw)
    need_draw(other, len(draw[1]))
    need_share(d)
    return _is_part_of(draw, other, d)


def _level_gap(other, numbers, level):
    """The chance by the other draw that the number is at least the level, less the share of such points."""
    above = [point for point, number in enumerate(numbers) if number >= level]
    chance = reduced(sum([other[1][point] for point in above]), other[0])
    return minus(chance, (len(above), len(numbers)))


def level_of(draw, other, family, d, mix):
    """The least value of the mix's row at which it parts the other draw from the even one by as much as told."""
    _need_draw(draw)
    need_draw(other, len(draw[1]))
    need_family_on(family, len(draw[1]))
    need_share(d)
    need_mix(mix, 2 * len(family))
    found = difference_of(draw, family, d, mix)
    if not _is_part_of(draw, other, d) or found[0] <= 0:
        raise InvalidOperation("not a part, or without a difference above 0")
    bottom, numbers = signed_row_of(family, mix)
    least = over(by(d, found), reduced(max(numbers) - min(numbers), bottom))
    levels = [number for number in numbers if ordered(_level_gap(other, numbers, number), least) >= 0]
    return reduced(min(levels), bottom)
