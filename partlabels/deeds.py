"""Deeds: what a part of a document does to one counter."""

from partlabels.integers import is_within
from partlabels.limits import GREATEST_NUMBER

LEAST_NUMBERS = {"add": 1, "set": 0}


def is_deed(value, counters):
    """Tell whether a value of any kind is a deed on one of some counters."""
    if not isinstance(value, tuple) or len(value) != 3:
        return False
    word, counter, number = value
    if not isinstance(word, str) or not isinstance(counter, str):
        return False
    if word not in LEAST_NUMBERS or counter not in counters:
        return False
    return is_within(number, LEAST_NUMBERS[word], GREATEST_NUMBER)
