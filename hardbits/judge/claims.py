"""The kinds of claims, and what the members of each kind are; their integers have any length."""

from hardbits.base.codes import log_of
from hardbits.base.kinds import is_between, is_design_below, is_family_on, is_fraction_between, is_lowest_pair
from hardbits.base.kinds import is_mix, is_mix_within, is_share, is_truth_within, is_word
from hardbits.base.pays import is_game
from hardbits.base.worst import is_top
from hardbits.errors import InvalidClaim

_MOST_POINTS = 32
_MOST_DRAWN_POINTS = 64
_MOST_PLACES = 12
_MOST_STRING = 5
_MOST_COPIES = 3
_MOST_COPIED_POINTS = 8


def _are_of_core(members):
    if len(members) != 4:
        return False
    truth, family, d, e = members
    if not is_truth_within(truth, 1, _MOST_POINTS) or not is_family_on(family, len(truth)):
        return False
    return is_share(d) and is_fraction_between(e, 0, 1)


def _are_of_game(members):
    return len(members) == 2 and is_game(members[0]) and is_lowest_pair(members[1])


def _are_of_draws(members):
    if len(members) != 3:
        return False
    one, other, s = members
    if not is_mix_within(one, 1, _MOST_DRAWN_POINTS) or not is_mix(other, len(one[1])):
        return False
    return is_fraction_between(s, 0, 1)


def _are_of_model(members):
    if len(members) != 4:
        return False
    draw, family, d, e = members
    if not is_mix_within(draw, 1, _MOST_POINTS) or not is_family_on(family, len(draw[1])):
        return False
    return is_share(d) and is_fraction_between(e, 0, 1)


def _is_read(l, design, test):
    """Whether these are a number of places, a design below it, and a test of as many bits as it has tuples."""
    if not is_between(l, 1, _MOST_PLACES) or not is_design_below(design, l):
        return False
    return is_word(test, 1 << len(design))


def _is_read_for_strings(l, design, test):
    return _is_read(l, design, test) and len(design[0]) <= _MOST_STRING


def _are_of_sources(members):
    if len(members) != 5:
        return False
    l, design, test, top, bound = members
    if not _is_read_for_strings(l, design, test):
        return False
    return is_top(top, len(design[0])) and is_fraction_between(bound, 0, 1)


def _are_of_string(members):
    if len(members) != 5:
        return False
    l, design, test, e, string = members
    if not _is_read_for_strings(l, design, test):
        return False
    return is_share(e) and is_word(string, len(design[0]))


def _are_of_copies(members):
    if len(members) != 7:
        return False
    truth, k, l, design, test, d, e = members
    if not is_truth_within(truth, 2, _MOST_COPIED_POINTS) or log_of(len(truth)) is None:
        return False
    if not is_between(k, 1, _MOST_COPIES) or not _is_read(l, design, test):
        return False
    return len(design[0]) == k * log_of(len(truth)) and is_share(d) and is_fraction_between(e, 0, 1)


_SHAPES = {"core": _are_of_core, "mix": _are_of_core, "held": _are_of_game, "beaten": _are_of_game,
           "close": _are_of_draws, "apart": _are_of_draws, "model": _are_of_model, "parted": _are_of_model,
           "each": _are_of_sources, "some": _are_of_sources, "within": _are_of_string, "beyond": _are_of_string,
           "kept": _are_of_copies, "followed": _are_of_copies}


def is_claim_of(value):
    """Whether the value is a claim."""
    if not isinstance(value, tuple) or not value or not isinstance(value[0], str) or value[0] not in _SHAPES:
        return False
    shape = _SHAPES[value[0]]
    return shape(value[1:])


def need_claim(claim):
    """Raises unless the value is a claim."""
    if not is_claim_of(claim):
        raise InvalidClaim("not a claim")
