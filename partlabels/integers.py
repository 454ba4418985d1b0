"""What counts as an integer."""


def is_natural(value):
    """Tell whether a value of any kind is an integer from 0 on."""
    # To Python, True and False are integers; to this package they are not.
    if not isinstance(value, int) or isinstance(value, bool):
        return False
    return value >= 0


def is_within(value, least, greatest):
    """Tell whether a value of any kind is an integer between two bounds from 0 on, or one of these."""
    return is_natural(value) and least <= value <= greatest
