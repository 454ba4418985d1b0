"""Documents whose values behind the last part stand for those of all documents.

A *point* is the row of the values of all counters, in ascending order, with 1 behind them; for two
schemes with the same documents, it has the values of the first one's counters, then those of the second
one's, then 1. So the sum of a row with a weight for each counter and a constant is its product with a point.
"""

from partlabels.actions import changed
from partlabels.changes import changes_of
from partlabels.rows import Span


def spanning_parts(schemes):
    """Return the list of tuples of a document and its point that stand for all documents.

    `schemes` is a list of schemes with the same documents. For each last kind there are as few documents
    as possible, in the order of their lengths: the point of each document that ends with this kind is a sum,
    with fractions, of the points of those in the list that end so, too, and are not longer.
    """
    scheme = schemes[0]
    moves = {kind: moves_of(schemes, kind) for kind in scheme.kinds()}
    spans = {kind: Span() for kind in scheme.kinds()}
    found = []
    latest = [([kind], moved(start_point(schemes), moves[kind])) for kind in scheme.beginners()]
    while len(latest) > 0:
        longer = []
        for document, point in latest:
            # What a part does to points is linear. So a point that is a sum of others has only
            # such points behind it that are sums of those behind the others.
            if spans[document[-1]].take(point):
                found.append((document, point))
                for kind in scheme.followers(document[-1]):
                    longer.append(([*document, kind], moved(point, moves[kind])))
        latest = longer
    return found


def points_of(parts, kind):
    """Return the points of those spanning parts whose documents end with a kind."""
    return [point for document, point in parts if document[-1] == kind]


def start_point(schemes):
    """Return the point of the empty document."""
    starts = [scheme.start(counter) for scheme in schemes for counter in scheme.counters()]
    return (*starts, 1)


def moves_of(schemes, kind):
    """Return the list of what a kind does to the numbers of a point."""
    moves = []
    for scheme in schemes:
        changes = changes_of(scheme, kind)
        moves.extend([changes[counter] for counter in scheme.counters()])
    return [*moves, ("add", 0)]


def moved(point, moves):
    """Return the point behind one more part."""
    return tuple([changed(number, move) for number, move in zip(point, moves)])


def row_before(row, moves):
    """Return the row with the same sum ahead of a part as a row has behind it."""
    weights = [0 if word == "set" else weight for weight, (word, _) in zip(row, moves)]
    gained = sum([weight * number for weight, (_, number) in zip(row, moves)])
    return (*weights[:-1], row[-1] + gained)
