"""Whether the labels of a kind ascend, and whether they go on without gaps."""

from partlabels.actions import action_of, one_and_then
from partlabels.changes import all_changes, touches
from partlabels.checks import check_labelled
from partlabels.climbs import Climb
from partlabels.documents import shortest_document, values
from partlabels.equations import against_equation, value_row
from partlabels.places import document_net, return_net, subsets
from partlabels.showing import shown_counters
from partlabels.walks import ways_from

# Whether a counter goes on is the same for all greater numbers as for this one.
MANY = 2


def falling(scheme, kind):
    """Return a document and the indexes of two parts of a kind in it with falling numbers, or None."""
    check_labelled(scheme, kind)
    shown = shown_counters(scheme, kind)
    for last in range(len(shown)):
        for kept in subsets(shown[:last]):
            counted = [counter for counter in shown[:last + 1] if counter not in kept]
            found = fall(scheme, kind, kept, counted)
            if found is not None:
                return found
    return None


def gap(scheme, kind):
    """Return a document and the indexes of two parts of a kind that do not go on, or None."""
    check_labelled(scheme, kind)
    ways = return_ways(scheme, kind)
    for last, touched, change in ways:
        if last == kind:
            way = ways[(last, touched, change)]
            begun = gap_beginning(scheme, kind, touched, change, way)
            if begun is not None:
                return ([*begun, *way], len(begun) - 1, len(begun) + len(way) - 1)
    return None


def fall(scheme, kind, kept, counted):
    """Return what `falling` tells, where the later numbers are set but for some that are kept, or None.

    Rows of parts from one part of the kind to another are asked for that set all counted counters and
    leave the kept ones. Behind them, the counted ones have values that do not depend on what was before.
    So there is a fall if the least such values are less than the greatest ones that a document has.
    """
    way = lowest_way(scheme, kind, kept, counted)
    if way is None:
        return None
    changes = action_of(scheme, way).changes()
    document = higher_document(scheme, kind, counted, [changes[counter][1] for counter in counted])
    if document is None:
        return None
    return ([*document, *way], len(document) - 1, len(document) + len(way) - 1)


def lowest_way(scheme, kind, kept, counted):
    """Return the row of parts to the kind that sets the counted counters to the least values, in order."""
    goal = (kind, tuple(counted))
    net = return_net(scheme, kind, counted, kept).leading_to(goal)
    if len(net.entries()) == 0:
        return None
    way = []
    for counter in counted:
        climb = Climb(net, [-1 if other == counter else 0 for other in counted])
        way = climb.way(goal)
        net = climb.ties().leading_to(goal)
    return way


def higher_document(scheme, kind, counted, lows):
    """Return a document that ends with a kind and with greater values than these, in order, or None."""
    goal = (kind, tuple(counted))
    net = document_net(scheme, counted).leading_to(goal)
    for counter, low in zip(counted, lows):
        climb = Climb(net, [1 if other == counter else 0 for other in counted])
        if climb.is_endless():
            return raised(scheme, climb.rounds(goal), counter, low)
        if climb.numbers()[goal] > low:
            return climb.way(goal)
        # A document can end with the row that sets the counters so low, so none of their greatest values
        # is less. Only documents with just this value can still be higher, by a later counter.
        net = climb.ties().leading_to(goal)
    return None


def raised(scheme, rounds, counter, low):
    """Return a document with so many rounds that a counter has a greater value than this behind it."""
    begin, row, end = rounds
    once = values(scheme, [*begin, *end])[counter]
    gain = values(scheme, [*begin, *row, *end])[counter] - once
    times = max(0, (low - once) // gain + 1)
    return [*begin, *(row * times), *end]


def return_ways(scheme, kind):
    """Return the dict from what rows of parts behind a part of a kind do to shortest such rows.

    A row goes up to the next part of the kind. It is told by its last kind, whether it has deeds on
    counters that are shown ahead of the last one, and what it does to this last counter.
    """
    shown = shown_counters(scheme, kind)
    changes = all_changes(scheme)

    def behind(state):
        last, touched, change = state
        found = []
        for other in scheme.followers(last):
            more = changes[other]
            found.append(((other, touched or touches(more, shown[:-1]), joined(change, more[shown[-1]])), other))
        return found

    entries = [(state, [first]) for state, first in behind((kind, False, ("add", 0)))]
    return ways_from(entries, lambda state: [] if state[0] == kind else behind(state))


def joined(change, more):
    """Return the change of first one and then another, where all great numbers count as the same."""
    word, number = one_and_then({"counter": change}, {"counter": more})["counter"]
    return (word, min(number, MANY))


def gap_beginning(scheme, kind, touched, change, way):
    """Return a document behind which such a row of parts does not go on, or None if it always does."""
    if touched and change == ("add", 0):
        return against_equation(scheme, kind, value_row(scheme, shown_counters(scheme, kind)[-1], 1))
    if change == (("set", 1) if touched else ("add", 1)):
        return None
    # Behind one such row, what is set has its value already, and what is added to is above 0. So the
    # same row once more does not go on.
    return [*shortest_document(scheme, kind), *way]
