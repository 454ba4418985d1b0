"""Deeds that can be left out without any label changing."""

from partlabels.alike import alike


def needless_deeds(scheme):
    """Return the ascending list of the tuples of the kind and the index of each deed that can be left out."""
    return [(kind, index) for kind in scheme.kinds() for index in range(len(scheme.deeds(kind)))
            if alike(scheme, without_deed(scheme, kind, index))]


def lean(scheme):
    """Return a scheme with the same labels in all documents and without needless deeds."""
    found = scheme
    shorter = leaner(found)
    # A deed can become needless only when another one has been left out.
    while shorter != found:
        found = shorter
        shorter = leaner(found)
    return found


def leaner(scheme):
    """Return the scheme without those deeds that are needless when they come to be asked for, one by one."""
    found = scheme
    for kind in scheme.kinds():
        # From the last one on, so that the indexes of those to come stay.
        for index in reversed(range(len(scheme.deeds(kind)))):
            shorter = without_deed(found, kind, index)
            if alike(found, shorter):
                found = shorter
    return found


def without_deed(scheme, kind, index):
    """Return the scheme in which a kind lacks the deed with an index."""
    deeds = scheme.deeds(kind)
    return scheme.with_deeds(kind, [*deeds[:index], *deeds[index + 1:]])
