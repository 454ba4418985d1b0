"""Which later labels an edit can change: a part that is put in, taken out, or exchanged with the next one."""

from partlabels.actions import changed
from partlabels.changes import all_changes
from partlabels.documents import reached, shortest_document
from partlabels.equations import against_equation, value_row
from partlabels.schemes import check_known
from partlabels.showing import shown_counters
from partlabels.walks import ways_from


def put_in_case(scheme, kind, later):
    """Return a document and the index where a part of a kind that is put in changes the last label, or None."""
    check_known([kind, later], scheme.kinds())
    found = put_in_halves(scheme, kind, later)
    if found is None:
        return None
    begun, rest = found
    return ([*begun, *rest], len(begun))


def take_out_case(scheme, kind, later):
    """Return a document and the index of a part of a kind without which the last label is another, or None."""
    check_known([kind, later], scheme.kinds())
    found = put_in_halves(scheme, kind, later)
    if found is None:
        return None
    begun, rest = found
    return ([*begun, kind, *rest], len(begun))


def exchange_case(scheme, kind, other, later):
    """Return a document and the index of the first of two parts whose exchange changes the last label, or None."""
    check_known([kind, other, later], scheme.kinds())
    for counter in shown_counters(scheme, later):
        if differs_in_order(scheme, kind, other, counter):
            found = joined_halves(scheme, exchange_beginnings(scheme, kind, other), counter, later)
            if found is not None:
                begun, rest = found
                return ([*begun, kind, other, *rest], len(begun))
    return None


def shaken(scheme, kind):
    """Return the ascending list of the kinds whose later labels can change when a part is put in."""
    check_known([kind], scheme.kinds())
    return [later for later in scheme.kinds() if put_in_halves(scheme, kind, later) is not None]


def shields(scheme, kind, later):
    """Return the ascending list of the kinds that never stand between a part put in and a label that changes."""
    check_known([kind, later], scheme.kinds())
    between = {}
    for counter in shown_counters(scheme, later):
        firsts = put_in_beginnings(scheme, kind, counter)
        for passed in kinds_on_ways(scheme, firsts, counter, later):
            between[passed] = True
    return [passed for passed in scheme.kinds() if passed not in between]


def put_in_halves(scheme, kind, later):
    """Return what stands ahead of a part that is put in, and behind it up to a label that changes, or None."""
    for counter in shown_counters(scheme, later):
        found = joined_halves(scheme, put_in_beginnings(scheme, kind, counter), counter, later)
        if found is not None:
            return found
    return None


def put_in_beginnings(scheme, kind, counter):
    """Return the dict from kinds to documents that a part of the kind may follow.

    A part can be put in between the two, and a counter has another value behind this part than ahead of it.
    """
    change = all_changes(scheme)[kind][counter]
    found = {}
    start = scheme.start(counter)
    if scheme.may_begin(kind) and changed(start, change) != start:
        for first in scheme.followers(kind):
            if scheme.may_begin(first):
                found[first] = []
    for before in reached(scheme):
        if scheme.may_follow(before, kind):
            document = document_to_change(scheme, before, counter, change)
            for first in scheme.followers(kind):
                if document is not None and scheme.may_follow(before, first) and first not in found:
                    found[first] = document
    return found


def document_to_change(scheme, last, counter, change):
    """Return a document that ends with a kind and with a value of a counter that a change alters, or None."""
    word, number = change
    if word == "set":
        return against_equation(scheme, last, value_row(scheme, counter, number))
    if number == 0:
        return None
    return shortest_document(scheme, last)


def exchange_beginnings(scheme, kind, other):
    """Return the dict from kinds to documents that parts of two other kinds and then one of the kind may follow.

    The two parts between can stand in both orders.
    """
    if not scheme.may_follow(kind, other) or not scheme.may_follow(other, kind):
        return {}
    firsts = [first for first in scheme.followers(kind) if scheme.may_follow(other, first)]
    if scheme.may_begin(kind) and scheme.may_begin(other):
        return {first: [] for first in firsts}
    for before in reached(scheme):
        if scheme.may_follow(before, kind) and scheme.may_follow(before, other):
            return {first: shortest_document(scheme, before) for first in firsts}
    return {}


def differs_in_order(scheme, kind, other, counter):
    """Tell whether a counter depends on the order of two parts that stand side by side."""
    changes = all_changes(scheme)
    one = changes[kind][counter]
    two = changes[other][counter]
    # Without a set, sums are the same in both orders; with one, the values ahead have no effect.
    return changed(changed(0, one), two) != changed(changed(0, two), one)


def joined_halves(scheme, beginnings, counter, later):
    """Return a document to begin with, and a row from the kind told with it to a later one, or None.

    The row does not set the counter.
    """
    ways = ways_without_set(scheme, list(beginnings), counter)
    if later not in ways:
        return None
    return (beginnings[ways[later][0]], ways[later])


def ways_without_set(scheme, firsts, counter):
    """Return the dict from kinds to the shortest rows to them that begin with some kinds and set no counter."""
    changes = all_changes(scheme)
    let = [kind for kind in changes if changes[kind][counter][0] == "add"]
    return ways_from([(first, [first]) for first in firsts if first in let],
                     lambda last: [(kind, kind) for kind in scheme.followers(last) if kind in let])


def kinds_on_ways(scheme, firsts, counter, later):
    """Return the list of the kinds that stand in rows from some kinds to a later one that do not set a counter."""
    starts = ways_without_set(scheme, list(firsts), counter)
    return [kind for kind in starts if later in ways_without_set(scheme, scheme.followers(kind), counter)]
