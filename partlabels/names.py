"""The names of counters, kinds and keys."""

LONGEST = 8


def is_name(text):
    """Tell whether a value is a name: one to eight letters from a to z."""
    if not isinstance(text, str) or len(text) > LONGEST:
        return False
    return text.isascii() and text.isalpha() and text.islower()
