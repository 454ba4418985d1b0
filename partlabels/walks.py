"""Shortest ways from state to state, where each step is taken by a part of some kind."""


def ways_from(entries, onward):
    """Return the dict from the states that can be reached to the first of the shortest ways to them.

    `entries` is a list of tuples of a state and the way to it, all equally long. `onward` tells for a
    state the list of the tuples of a next state and the kind that leads to it. A way is a list of kinds.
    """
    ways = {}
    latest = entries
    while len(latest) > 0:
        longer = []
        for state, way in latest:
            if state not in ways:
                ways[state] = way
                longer.extend([(other, [*way, kind]) for other, kind in onward(state)])
        latest = longer
    return ways
