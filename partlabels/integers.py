"""What counts as an integer."""


def is_number(value):
    """Tell whether a value of any kind is an integer."""
    # To Python, True and False are integers; to this package they are not.
    return isinstance(value, int) and not isinstance(value, bool)


def is_natural(value):
    """Tell whether a value of any kind is an integer from 0 on."""
    return is_number(value) and value >= 0


def is_within(value, least, greatest):
    """Tell whether a value of any kind is an integer between two bounds from 0 on, or one of these."""
    return is_natural(value) and least <= value <= greatest
