"""Linear equations between the counters behind a kind, and remainders of their values."""

from partlabels.actions import changed
from partlabels.changes import all_changes
from partlabels.checks import check_reached
from partlabels.errors import BadNumber, BadRow, UnknownName
from partlabels.integers import is_number, is_within
from partlabels.rows import Span, product_of
from partlabels.spans import points_of, spanning_parts
from partlabels.walks import ways_from

LEAST_DIVISOR = 2
GREATEST_DIVISOR = 12


def is_equation(scheme, kind, row):
    """Tell whether the sum of a row is 0 behind each part of a kind in all documents."""
    return against_equation(scheme, kind, row) is None


def against_equation(scheme, kind, row):
    """Return a shortest document that ends with a kind and with another sum than 0, or None."""
    check_reached(scheme, kind)
    if not is_row(row, len(scheme.counters()) + 1):
        raise BadRow()
    for document, point in spanning_parts([scheme]):
        if document[-1] == kind and product_of(row, point) != 0:
            return document
    return None


def equations(scheme, kind):
    """Return the reduced list of the equations of a kind."""
    check_reached(scheme, kind)
    points = points_of(spanning_parts([scheme]), kind)
    return Span(points).crossing(len(scheme.counters()) + 1)


def spanning(scheme, kind):
    """Return as few documents as possible that tell all equations of a kind."""
    check_reached(scheme, kind)
    return [document for document, _ in spanning_parts([scheme]) if document[-1] == kind]


def remainders(scheme, kind, counter, divisor):
    """Return the ascending list of the remainders of the values of a counter behind a kind."""
    check_reached(scheme, kind)
    if counter not in scheme.counters():
        raise UnknownName(counter)
    if not is_within(divisor, LEAST_DIVISOR, GREATEST_DIVISOR):
        raise BadNumber(divisor)
    changes = all_changes(scheme)

    def behind(number, kinds):
        return [((other, changed(number, changes[other][counter]) % divisor), other) for other in kinds]

    entries = [(state, [first]) for state, first in behind(scheme.start(counter), scheme.beginners())]
    states = ways_from(entries, lambda state: behind(state[1], scheme.followers(state[0])))
    return sorted([rest for last, rest in states if last == kind])


def is_row(value, width):
    """Tell whether a value of any kind is a tuple of so many integers."""
    if not isinstance(value, tuple) or len(value) != width:
        return False
    return all([is_number(number) for number in value])


def value_row(scheme, counter, number):
    """Return the row whose sum is 0 where a counter has just this value."""
    weights = [1 if other == counter else 0 for other in scheme.counters()]
    return (*weights, -number)
