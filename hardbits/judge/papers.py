"""What is a paper for each kind of claim: of claims that are known to be right, and any paper."""

from hardbits.base.copying import bound_of, copies_of, lines_of
from hardbits.base.couplings import is_coupling, is_parting
from hardbits.base.exact import amount, dot, lowest_row, ordered
from hardbits.base.kinds import is_integer, is_row_within, is_tuple_of
from hardbits.base.leading import counted_string, excesses_of, is_advice_of, led_to
from hardbits.base.margins import is_core_of, is_mix_above
from hardbits.base.models import is_model_of, is_signed_above
from hardbits.base.pays import beats, holds
from hardbits.base.reading import counted_bits, excess_of, is_predictor_of, is_within, row_of_predictor
from hardbits.base.worst import excess_of_source, is_below, worst_of


def _is_core(members, paper):
    truth, family, d, e = members
    return is_core_of(truth, family, d, e, paper)


def _is_mix(members, paper):
    truth, family, d, e = members
    return is_mix_above(truth, family, d, e, paper)


def _is_holding(members, paper):
    table, v = members
    return holds(table, v, paper)


def _is_beating(members, paper):
    table, v = members
    return beats(table, v, paper)


def _is_coupled(members, paper):
    one, other, s = members
    return is_coupling(one, other, s, paper)


def _is_parting(members, paper):
    one, other, s = members
    return is_parting(one, other, s, paper)


def _is_model(members, paper):
    draw, family, d, e = members
    return is_model_of(draw, family, d, e, paper)


def _is_signed(members, paper):
    draw, family, d, e = members
    return is_signed_above(draw, family, d, e, paper)


def _is_row_of_excesses(members, paper):
    l, design, test, top, bound = members
    count = 1 << len(design[0])
    if not is_row_within(paper, count, count):
        return False
    row = excesses_of(l, design, test)
    return lowest_row(paper[0], paper[1]) == row and ordered(worst_of(row, top)[0], bound) <= 0


def _is_source(members, paper):
    l, design, test, top, bound = members
    if not is_below(paper, 1 << len(design[0]), top):
        return False
    return ordered(amount(excess_of_source(excesses_of(l, design, test), paper)), bound) > 0


def _is_met(draw, test, value):
    """Whether the value is the number of seeds whose bits the test meets."""
    return is_integer(value) and value == dot(draw[1], test)


def _is_number_of_string(members, paper):
    l, design, test, e, string = members
    draw = counted_string(l, design, string)
    return _is_met(draw, test, paper) and is_within(excess_of(draw, test), len(design), e)


def _is_led_back(members, paper):
    l, design, test, e, string = members
    if not is_tuple_of(paper, 2):
        return False
    number, advice = paper
    draw = counted_string(l, design, string)
    if not _is_met(draw, test, number) or is_within(excess_of(draw, test), len(design), e):
        return False
    return is_advice_of(design, advice) and led_to(design, test, e, advice) == string


def _is_number_of_copies(members, paper):
    truth, k, l, design, test, d, e = members
    draw = counted_bits(copies_of((truth,) * k), l, design)
    return _is_met(draw, test, paper) and is_within(excess_of(draw, test), len(design), bound_of(d, e, k))


def _is_followed(members, paper):
    truth, k, l, design, test, d, e = members
    if not is_tuple_of(paper, 3):
        return False
    number, predictor, mix = paper
    copied = copies_of((truth,) * k)
    draw = counted_bits(copied, l, design)
    if not _is_met(draw, test, number) or is_within(excess_of(draw, test), len(design), bound_of(d, e, k)):
        return False
    if not is_predictor_of(l, design, predictor):
        return False
    family = lines_of(len(truth), k, row_of_predictor(copied, l, design, test, predictor))
    return is_mix_above(truth, family, d, e, mix)


_PAPERS = {"core": _is_core, "mix": _is_mix, "held": _is_holding, "beaten": _is_beating, "close": _is_coupled,
           "apart": _is_parting, "model": _is_model, "parted": _is_signed, "each": _is_row_of_excesses,
           "some": _is_source, "within": _is_number_of_string, "beyond": _is_led_back, "kept": _is_number_of_copies,
           "followed": _is_followed}


def is_paper(kind, members, paper):
    """Whether the paper is one for the claim of this kind with these members."""
    check = _PAPERS[kind]
    return check(members, paper)
