"""Checks that the stages of cores, votes and rounds share."""

from hardbits.base.checks import need_family_on, need_fraction_between, need_share, need_truth
from hardbits.errors import TooMany
from hardbits.points.truths import MOST_POINTS

_MOST_WORK = 2048


def need_truth_and_family(truth, family):
    """Raises unless these are a truth, and a family on its points."""
    need_truth(truth, MOST_POINTS)
    need_family_on(family, len(truth))


def need_for_share(truth, family, d):
    """Raises unless these are a truth, a family on its points, and a share."""
    need_truth_and_family(truth, family)
    need_share(d)


def need_for_core(truth, family, d, e):
    """Raises unless these are a truth, a family on its points, a share, and an edge from 0 to 1."""
    need_for_share(truth, family, d)
    need_fraction_between(e, 0, 1)


def need_little_work(tests, points):
    """Raises if so many tests times points are too many for a linear program."""
    if tests * points > _MOST_WORK:
        raise TooMany(_MOST_WORK)
