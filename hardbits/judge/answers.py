"""Stage 21: which one of a claim and its opposite is true, with a paper for it."""

from hardbits.base.copying import bound_of, copies_of
from hardbits.base.exact import dot, ordered
from hardbits.base.leading import counted_string, excesses_of
from hardbits.base.reading import counted_bits, excess_of, is_within
from hardbits.base.worst import worst_of
from hardbits.copies.chain import following_mix
from hardbits.core.edges import core_or_mix
from hardbits.core.needs import need_little_work
from hardbits.game.games import rows_or_columns
from hardbits.judge.claims import need_claim
from hardbits.near.dense import model_or_mix, need_little_signed_work
from hardbits.words.draws import coupling_or_test
from hardbits.words.strings import leading_advice


def _core_answered(members):
    truth, family, d, e = members
    need_little_work(len(family), len(truth))
    return core_or_mix(truth, family, d, e)


def _game_answered(members):
    table, v = members
    kind, mix = rows_or_columns(table, v)
    return ("held" if kind == "rows" else "beaten", mix)


def _draws_answered(members):
    one, other, s = members
    kind, told = coupling_or_test(one, other, s)
    return ("close" if kind == "coupling" else "apart", told)


def _model_answered(members):
    draw, family, d, e = members
    need_little_signed_work(draw, family)
    kind, told = model_or_mix(draw, family, d, e)
    return ("model" if kind == "model" else "parted", told)


def _sources_answered(members):
    l, design, test, top, bound = members
    row = excesses_of(l, design, test)
    number, source = worst_of(row, top)
    return ("each", row) if ordered(number, bound) <= 0 else ("some", source)


def _string_answered(members):
    l, design, test, e, string = members
    draw = counted_string(l, design, string)
    number = dot(draw[1], test)
    if is_within(excess_of(draw, test), len(design), e):
        return ("within", number)
    return ("beyond", (number, leading_advice(design, test, e, string)))


def _copies_answered(members):
    truth, k, l, design, test, d, e = members
    draw = counted_bits(copies_of((truth,) * k), l, design)
    number = dot(draw[1], test)
    if is_within(excess_of(draw, test), len(design), bound_of(d, e, k)):
        return ("kept", number)
    predictor, mix = following_mix(truth, k, l, design, test, d, e)
    return ("followed", (number, predictor, mix))


_ANSWERS = {"core": _core_answered, "mix": _core_answered, "held": _game_answered, "beaten": _game_answered,
            "close": _draws_answered, "apart": _draws_answered, "model": _model_answered, "parted": _model_answered,
            "each": _sources_answered, "some": _sources_answered, "within": _string_answered,
            "beyond": _string_answered, "kept": _copies_answered, "followed": _copies_answered}


def answered(claim):
    """The true one of the claim and its opposite, and a paper for it."""
    need_claim(claim)
    answer = _ANSWERS[claim[0]]
    kind, paper = answer(claim[1:])
    return ((kind,) + claim[1:], paper)
