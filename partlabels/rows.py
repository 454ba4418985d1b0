"""Rows of integers, and the sums of rows, each times a fraction."""

from math import gcd, lcm


class Span:
    """All sums of the rows that were taken, each times a fraction.

    For each row that is kept, no other one has anything but 0 at the place of its leading number.
    """

    def __init__(self, rows=()):
        self._by_lead = {}
        for row in rows:
            self.take(row)

    def has(self, row):
        """Tell whether a row is a sum of the rows that were taken."""
        return leading_place(self._rest(row)) is None

    def take(self, row):
        """Take one more row, and tell whether it was no sum of those before."""
        rest = self._rest(row)
        lead = leading_place(rest)
        if lead is None:
            return False
        self._by_lead = {place: cleared(other, lead, rest) for place, other in self._by_lead.items()}
        self._by_lead[lead] = rest
        return True

    def reduced(self):
        """Return the reduced list of the rows: the leading numbers stand at ascending places."""
        return [tuple(self._by_lead[lead]) for lead in sorted(self._by_lead)]

    def crossing(self, width):
        """Return the reduced list of the rows that have the product 0 with each row, all of this width."""
        found = Span()
        for free in range(width):
            if free not in self._by_lead:
                found.take(self._solution(free, width))
        return found.reduced()

    def _rest(self, row):
        """Return a row less such sums of the rows that it has 0 at the places of their leading numbers."""
        rest = plain(row)
        for lead, other in self._by_lead.items():
            rest = cleared(rest, lead, other)
        return rest

    def _solution(self, free, width):
        """Return the row that crosses all rows and has 0 at each place without a leading number but one."""
        common = 1
        for lead, other in self._by_lead.items():
            common = lcm(common, other[lead])
        row = [0] * width
        row[free] = common
        for lead, other in self._by_lead.items():
            row[lead] = -other[free] * (common // other[lead])
        return row


def product_of(row, other):
    """Return the sum of the numbers of a row, each times that of another row at the same place."""
    return sum([number * factor for number, factor in zip(row, other)])


def leading_place(row):
    """Return the place of the first number other than 0, or None."""
    for place, number in enumerate(row):
        if number != 0:
            return place
    return None


def plain(row):
    """Return a row without its common divisor, and with a leading number above 0."""
    lead = leading_place(row)
    if lead is None:
        return list(row)
    common = 0
    for number in row:
        common = gcd(common, number)
    if row[lead] < 0:
        common = -common
    return [number // common for number in row]


def cleared(row, place, other):
    """Return a row, times a number, less such a multiple of another one that it has 0 at a place."""
    if row[place] == 0:
        return row
    return plain([number * other[place] - row[place] * less for number, less in zip(row, other)])
