"""Checks of parameters: each one raises its error, or does nothing."""

from hardbits.base.kinds import is_between, is_design_below, is_family_on, is_fraction_between, is_integer
from hardbits.base.kinds import is_measure_within, is_mix, is_row_within, is_share, is_short, is_short_fraction
from hardbits.base.kinds import is_truth_within, is_word
from hardbits.errors import InvalidDesign, InvalidDraw, InvalidFamily, InvalidFraction, InvalidMeasure, InvalidMix
from hardbits.errors import InvalidNumber, InvalidRow, InvalidTruth, InvalidWord

_SMALL_PRIMES = (2, 3, 5, 7)


def need_number(value, low, high):
    """Raises unless the value is an integer from low to high."""
    if not is_between(value, low, high):
        raise InvalidNumber(value)


def need_small_prime(value):
    """Raises unless the value is 2, 3, 5 or 7."""
    if not is_integer(value) or value not in _SMALL_PRIMES:
        raise InvalidNumber(value)


def need_short(value):
    """Raises unless the value is an integer of at most nine digits."""
    if not is_short(value):
        raise InvalidNumber(value)


def need_fraction(value):
    """Raises unless the value is a fraction of integers of at most nine digits."""
    if not is_short_fraction(value):
        raise InvalidFraction("not a fraction in lowest terms")


def need_fraction_between(value, low, high):
    """Raises unless the value is a fraction from the integer low to the integer high."""
    need_fraction(value)
    if not is_fraction_between(value, low, high):
        raise InvalidFraction("not a fraction within the bounds")


def need_share(value):
    """Raises unless the value is a fraction above 0, at most 1."""
    need_fraction(value)
    if not is_share(value):
        raise InvalidFraction("a share is above 0, at most 1")


def need_row(value, most):
    """Raises unless the value is a row of 1 to most integers."""
    if not is_row_within(value, 1, most):
        raise InvalidRow("not a row of so many integers")


def need_truth(value, most):
    """Raises unless the value is a truth of 1 to most points."""
    if not is_truth_within(value, 1, most):
        raise InvalidTruth("not a truth")


def need_family_on(value, points):
    """Raises unless the value is a family of tests of so many points."""
    if not is_family_on(value, points):
        raise InvalidFamily("not a family on these points")


def need_measure(value, least, most):
    """Raises unless the value is a measure of any share on least to most points."""
    if not is_measure_within(value, least, most):
        raise InvalidMeasure("not a measure on so many points")


def need_mix(value, count):
    """Raises unless the value is a mix of so many things."""
    if not is_mix(value, count):
        raise InvalidMix("not a mix of so many things")


def need_draw(value, count):
    """Raises unless the value is a draw on so many points."""
    if not is_mix(value, count):
        raise InvalidDraw("not a draw on so many points")


def need_word(value, length):
    """Raises unless the value is a word of so many bits."""
    if not is_word(value, length):
        raise InvalidWord("not a word of so many bits")


def need_table(value, bits):
    """Raises unless the value is a table of so many bits, one for each word of them."""
    if not is_word(value, 1 << bits):
        raise InvalidWord("not a table of so many bits")


def need_design(value, limit):
    """Raises unless the value is a design of places below the limit."""
    if not is_design_below(value, limit):
        raise InvalidDesign("not a design of such places")
