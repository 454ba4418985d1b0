"""Which counters the labels of a kind show."""


def shown_counters(scheme, kind):
    """Return the list of the counters that the label of a kind shows, in order; without a label it shows none."""
    label = scheme.label(kind)
    if label is None:
        return []
    return [counter for counter, _ in label.shown]
