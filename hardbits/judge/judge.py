"""Stage 21: the checker of claims and papers. It searches for nothing, and rests on what stands beside it."""

from hardbits.judge.claims import is_claim_of, need_claim
from hardbits.judge.papers import is_paper

_OPPOSITES = {"core": "mix", "mix": "core", "held": "beaten", "beaten": "held", "close": "apart", "apart": "close",
              "model": "parted", "parted": "model", "each": "some", "some": "each", "within": "beyond",
              "beyond": "within", "kept": "followed", "followed": "kept"}


def is_claim(value):
    """Whether the value is a claim."""
    return is_claim_of(value)


def opposite(claim):
    """The opposite of the claim, with the same members."""
    need_claim(claim)
    return (_OPPOSITES[claim[0]],) + claim[1:]


def takes(claim, paper):
    """Whether the paper is one for the claim."""
    need_claim(claim)
    return is_paper(claim[0], claim[1:], paper)
