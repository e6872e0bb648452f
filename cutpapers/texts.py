"""Integers, and how they are written."""

MOST_DIGITS = 6


def is_integer(value, least, greatest):
    """Returns whether the value is an integer from least to greatest."""
    # The exact class leaves out True and False, and objects whose own
    # comparisons could raise an error.
    return type(value) is int and least <= value <= greatest


def integer_of(word):
    """Returns the integer that the word writes, or None if there is none."""
    if type(word) is not str:
        return None
    digits = word.removeprefix("-")
    if not _are_digits(digits):
        return None
    # A first digit 0 is a leading zero, or the word is -0, unless it is all.
    if digits.startswith("0") and word != "0":
        return None
    return int(word)


def _are_digits(word):
    # Without isascii, digits of other scripts would pass.
    return len(word) <= MOST_DIGITS and word.isascii() and word.isdigit()
