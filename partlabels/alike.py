"""Schemes that give the same labels in all documents."""

from partlabels.documents import label_text, reached
from partlabels.equations import is_row
from partlabels.errors import UnlikeSchemes
from partlabels.rows import Span, product_of
from partlabels.spans import moved, moves_of, points_of, row_before, spanning_parts, start_point


def parting(one, other):
    """Return a shortest document whose last part has not the same label in two schemes, or None."""
    check_comparable(one, other)
    for document, point in spanning_parts([one, other]):
        # A difference of two numbers that are shown is linear, so a shortest document in which it is
        # not 0 is among those that stand for all.
        if not same_labels(one, other, document[-1], point):
            return document
    return None


def alike(one, other):
    """Tell whether two schemes give the same labels in all documents."""
    return parting(one, other) is None


def alike_paper(one, other):
    """Return a paper that shows that two schemes are alike, or None if they are not."""
    if not alike(one, other):
        return None
    parts = spanning_parts([one, other])
    return {kind: Span(points_of(parts, kind)).crossing(joint_width(one, other)) for kind in reached(one)}


def check_alike(one, other, paper):
    """Tell whether a dict is a paper that shows that two schemes are alike."""
    check_comparable(one, other)
    if sorted(paper) != reached(one):
        return False
    for rows in paper.values():
        if not is_row_list(rows, joint_width(one, other)):
            return False
    return begins_hold(one, other, paper) and steps_hold(one, other, paper) and labels_hold(one, other, paper)


def check_comparable(one, other):
    """Raise the error that is due unless two schemes have the same kinds, beginners and followers."""
    if one.kinds() != other.kinds() or one.beginners() != other.beginners():
        raise UnlikeSchemes()
    for kind in one.kinds():
        if one.followers(kind) != other.followers(kind):
            raise UnlikeSchemes()


def same_labels(one, other, kind, point):
    """Tell whether a part of a kind has the same label in two schemes, with these values behind it."""
    many = len(one.counters())
    first = label_text(one, kind, dict(zip(one.counters(), point)))
    second = label_text(other, kind, dict(zip(other.counters(), point[many:])))
    return first == second


def joint_width(one, other):
    """Return how many numbers a joint row of two schemes has."""
    return len(one.counters()) + len(other.counters()) + 1


def is_row_list(value, width):
    """Tell whether a value of any kind is a list, or a tuple, of rows of so many integers."""
    return isinstance(value, (list, tuple)) and all([is_row(row, width) for row in value])


def begins_hold(one, other, paper):
    """Tell whether all rows of the kinds that may begin have the sum 0 behind a first part."""
    start = start_point([one, other])
    for kind in one.beginners():
        point = moved(start, moves_of([one, other], kind))
        if not all([product_of(row, point) == 0 for row in paper[kind]]):
            return False
    return True


def steps_hold(one, other, paper):
    """Tell whether each part keeps the rows: those of its kind hold if those of the kind before do."""
    spans = {kind: Span(paper[kind]) for kind in paper}
    moves = {kind: moves_of([one, other], kind) for kind in paper}
    for kind in paper:
        for later in one.followers(kind):
            if not all([spans[kind].has(row_before(row, moves[later])) for row in paper[later]]):
                return False
    return True


def labels_hold(one, other, paper):
    """Tell whether the labels of each kind are the same by the rows of the kind."""
    return all([labels_alike(one, other, kind, Span(paper[kind])) for kind in paper])


def labels_alike(one, other, kind, span):
    """Tell whether the labels of a kind are the same in two schemes, by the sums of some rows."""
    first = one.label(kind)
    second = other.label(kind)
    if first is None or second is None:
        return first is None and second is None
    if not first.same_form(second):
        return False
    return all([span.has(same_value_row(one, other, left, right))
                for (left, _), (right, _) in zip(first.shown, second.shown)])


def same_value_row(one, other, left, right):
    """Return the joint row whose sum is 0 where two counters of two schemes have the same value."""
    weights = [1 if counter == left else 0 for counter in one.counters()]
    weights.extend([-1 if counter == right else 0 for counter in other.counters()])
    return (*weights, 0)
