"""Places: a kind of a part, and those counted counters that no later part sets.

A way through places is a document, or a row of parts, together with what it adds up: at each part, a
settled counter gains what is added to it, and one that is settled from there on gains what it is set to.
So at the end, where all counted counters are settled, each has gained its value. What a part gains is told
by a tuple with a number for each counted counter.
"""

from partlabels.actions import changed
from partlabels.changes import all_changes, touches
from partlabels.walks import ways_from


class Net:
    """Places, and the steps between them that a document can take.

    `entries` is a list of tuples of a place where a way may begin and what it gains there, `arrows` a dict
    from places to the lists of the tuples of a next place and what the step to it gains.
    """

    def __init__(self, entries, arrows):
        self._entries = list(entries)
        self._arrows = {place: list(arrows[place]) for place in arrows}

    def entries(self):
        """Return the list of the tuples of a place where a way may begin and what it gains there."""
        return list(self._entries)

    def places(self):
        """Return the list of the places."""
        return list(self._arrows)

    def arrows(self, place):
        """Return the list of the tuples of a next place and what the step to it gains."""
        return list(self._arrows[place])

    def leading_to(self, goal):
        """Return the net of those places from which a way leads on to the goal."""
        sources = {place: [] for place in self._arrows}
        for place in self._arrows:
            for other, _ in self._arrows[place]:
                sources[other].append((place, place[0]))
        leading = ways_from([(goal, [])], lambda at: sources.get(at, []))
        entries = [(place, gains) for place, gains in self._entries if place in leading]
        arrows = {place: [(other, gains) for other, gains in self._arrows[place] if other in leading]
                  for place in self._arrows if place in leading}
        return Net(entries, arrows)

    def path(self, place, goal):
        """Return the kinds on a shortest way from a place to the goal, which it leads on to."""
        ways = ways_from([(place, [])], lambda at: [(other, other[0]) for other, _ in self._arrows[at]])
        return ways[goal]


def subsets(counters):
    """Return the list of the tuples of none, some or all of the counters, in their order."""
    found = [()]
    for counter in counters:
        further = [(*some, counter) for some in found]
        found = [*found, *further]
    return found


def document_net(scheme, counted):
    """Return the net whose ways are the documents of a scheme."""
    changes = all_changes(scheme)
    entries = []
    for kind in scheme.beginners():
        values = {counter: changed(scheme.start(counter), changes[kind][counter]) for counter in counted}
        for settled in subsets(counted):
            gains = [values[counter] if counter in settled else 0 for counter in counted]
            entries.append(((kind, settled), tuple(gains)))
    return Net(entries, all_arrows(scheme, scheme.kinds(), counted))


def return_net(scheme, kind, counted, unset):
    """Return the net whose ways are the rows of parts behind a part of a kind.

    Each counted counter is set by the row, and a counter that is `unset` has no deeds in it.
    """
    changes = all_changes(scheme)
    let = [other for other in changes if not touches(changes[other], unset)]
    arrows = all_arrows(scheme, let, counted)
    entries = [((other, settled), gains) for other in scheme.followers(kind) if other in let
               for settled, gains in steps_by(changes[other], counted, ())]
    return Net(entries, arrows)


def all_arrows(scheme, let, counted):
    """Return the dict from the places of some kinds to the lists of the next places and gains."""
    changes = all_changes(scheme)
    arrows = {}
    for settled in subsets(counted):
        steps = {kind: steps_by(changes[kind], counted, settled) for kind in let}
        for kind in let:
            arrows[(kind, settled)] = [((other, later), gains) for other in scheme.followers(kind) if other in let
                                       for later, gains in steps[other]]
    return arrows


def steps_by(changes, counted, settled):
    """Return the list of what can be settled behind one more part, with what this gains."""
    setting = [counter for counter in counted if changes[counter][0] == "set"]
    if any([counter in settled for counter in setting]):
        return []
    found = []
    for further in subsets(setting):
        later = [counter for counter in counted if counter in settled or counter in further]
        gains = [changes[counter][1] if counter in later else 0 for counter in counted]
        found.append((tuple(later), tuple(gains)))
    return found
