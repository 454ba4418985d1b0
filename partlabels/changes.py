"""What the parts of each kind do to each counter, all deeds taken together."""

from partlabels.actions import kind_action


def all_changes(scheme):
    """Return the dict from kinds to the dicts from all counters to changes, as actions have them."""
    return {kind: changes_of(scheme, kind) for kind in scheme.kinds()}


def changes_of(scheme, kind):
    """Return the dict from all counters to what a kind does to them; what leaves a counter adds 0."""
    changes = kind_action(scheme, kind).changes()
    return {counter: changes.get(counter, ("add", 0)) for counter in scheme.counters()}


def touches(changes, counters):
    """Tell whether the changes of a kind alter some of the counters."""
    return any([changes[counter] != ("add", 0) for counter in counters])
