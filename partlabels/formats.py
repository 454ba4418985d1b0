"""The two formats of numbers: decimal figures, and letters (a, b, .., z, aa, ab, ..)."""

from partlabels.errors import BadNumber, BadText
from partlabels.integers import is_natural

ALPHABET = "abcdefghijklmnopqrstuvwxyz"


def figures(number):
    """Return the decimal text of an integer from 0 on."""
    if not is_natural(number):
        raise BadNumber(number)
    # Python's `str` refuses integers of some thousands of figures, so it gets pieces.
    left = number
    pieces = []
    while left >= 10 ** 60:
        left, piece = divmod(left, 10 ** 60)
        pieces.append(str(piece).zfill(60))
    pieces.append(str(left))
    return "".join(pieces[::-1])


def letters(number):
    """Return the word with this number among all words of letters, or `-` for 0."""
    if not is_natural(number):
        raise BadNumber(number)
    if number == 0:
        return "-"
    left = number
    signs = []
    while left > 0:
        # No letter stands for 0: the places of a word count from 1 to 26.
        left, place = divmod(left - 1, 26)
        signs.append(ALPHABET[place])
    return "".join(signs[::-1])


def read_figures(text):
    """Return the integer from 0 on with this decimal text."""
    if not text.isascii() or not text.isdigit():
        raise BadText()
    if text.startswith("0") and text != "0":
        raise BadText()
    number = 0
    # Python's `int` refuses texts of some thousands of figures, so it gets one at a time.
    for sign in text:
        number = number * 10 + int(sign)
    return number


def read_letters(text):
    """Return the integer from 0 on that `letters` writes so."""
    if text == "-":
        return 0
    if not text.isascii() or not text.isalpha() or not text.islower():
        raise BadText()
    number = 0
    for sign in text:
        number = number * 26 + ord(sign) - ord("a") + 1
    return number
