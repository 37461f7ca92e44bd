"""Words of texts: integers, fractions, bits. A word that is none is read as None."""

from hardbits.base.kinds import is_short_fraction

_DIGITS = "0123456789"
_MOST_DIGITS = 9


def _are_digits(word):
    """Whether the word is the digits of an integer from 0 on, of at most nine of them, without zeros ahead."""
    if not 1 <= len(word) <= _MOST_DIGITS or (word[0] == "0" and len(word) > 1):
        return False
    return all(sign in _DIGITS for sign in word)


def read_integer(word):
    """The integer of which the word is the text, or None."""
    if word != "-0" and _are_digits(word.removeprefix("-")):
        return int(word)
    return None


def read_below(word, limit):
    """The integer from 0 to below the limit of which the word is the text, or None."""
    number = read_integer(word)
    if number is None or not 0 <= number < limit:
        return None
    return number


def spelled_fraction(number):
    """The word of a fraction."""
    return f"{number[0]}/{number[1]}"


def read_lowest(word):
    """The fraction of which the word is the text, or None."""
    top, _, bottom = word.partition("/")
    number = (read_integer(top), read_integer(bottom))
    return number if is_short_fraction(number) else None


def spelled_bits(bits):
    """The word of some bits."""
    return "".join([str(bit) for bit in bits])


def read_bits(word, length):
    """The so many bits of which the word is the text, or None."""
    if len(word) != length or not all(sign in "01" for sign in word):
        return None
    return tuple([int(sign) for sign in word])
