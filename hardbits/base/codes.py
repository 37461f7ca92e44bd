"""Words as numbers, numbers as words, bits as signs: nothing is checked here."""


def spelled(number, length):
    """The word of so many bits with this number."""
    return tuple([number >> place & 1 for place in range(length)])


def number_of(word):
    """The number of a word."""
    return sum([bit << place for place, bit in enumerate(word)])


def sign_of(bit):
    """The sign for which a bit stands."""
    return 1 - 2 * bit


def bit_of(sign):
    """The bit that stands for a sign."""
    return (1 - sign) // 2


def parity(number):
    """The sum of the bits of a number from 0 on, modulo 2."""
    odd = 0
    while number:
        odd ^= number & 1
        number >>= 1
    return odd


def log_of(count):
    """The n for which count, from 1 on, is 2 ** n, or None."""
    if count & (count - 1):
        return None
    return count.bit_length() - 1
