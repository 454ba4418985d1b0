"""Schemes: counters with their starts, and kinds of parts with their deeds, labels and order."""

from partlabels.deeds import is_deed
from partlabels.errors import BadCount, BadDeed, BadLabel, BadName, BadNumber, UnknownName
from partlabels.integers import is_within
from partlabels.labels import Label
from partlabels.limits import GREATEST_NUMBER, MOST_COUNTERS, MOST_DEEDS, MOST_KINDS
from partlabels.names import is_name


class Scheme:
    """What the parts of each kind do to the counters and show of them, and where they may stand."""

    def __init__(self, starts, kinds, *, follows=None, begins=None):
        check_starts(starts)
        check_kinds(kinds, starts)
        check_follows(follows, kinds)
        check_known(begins, kinds)
        # The names are put in ascending order here, once for all that is asked later.
        self._starts = {counter: starts[counter] for counter in sorted(starts)}
        self._kinds = {kind: (tuple(kinds[kind][0]), kinds[kind][1]) for kind in sorted(kinds)}
        self._followers = {kind: picked(told_followers(follows, kind), kinds) for kind in sorted(kinds)}
        self._beginners = picked(begins, kinds)

    def counters(self):
        """Return the ascending list of the counters."""
        return list(self._starts)

    def kinds(self):
        """Return the ascending list of the kinds."""
        return list(self._kinds)

    def start(self, counter):
        """Return the value of a counter at the beginning of each document."""
        check_known([counter], self._starts)
        return self._starts[counter]

    def deeds(self, kind):
        """Return the list of the deeds of a kind, in their order."""
        check_known([kind], self._kinds)
        return list(self._kinds[kind][0])

    def label(self, kind):
        """Return the label of a kind, or None."""
        check_known([kind], self._kinds)
        return self._kinds[kind][1]

    def followers(self, kind):
        """Return the ascending list of the kinds that may follow a kind."""
        check_known([kind], self._kinds)
        return list(self._followers[kind])

    def beginners(self):
        """Return the ascending list of the kinds that may begin a document."""
        return list(self._beginners)

    def may_begin(self, kind):
        """Tell whether a kind may begin a document."""
        check_known([kind], self._kinds)
        return kind in self._beginners

    def may_follow(self, kind, other):
        """Tell whether the kind `other` may follow the kind `kind`."""
        check_known([kind, other], self._kinds)
        return other in self._followers[kind]

    def __eq__(self, other):
        return (isinstance(other, Scheme) and self._starts == other._starts and self._kinds == other._kinds
                and self._followers == other._followers and self._beginners == other._beginners)

    def with_start(self, counter, start):
        """Return the scheme in which a counter has another start."""
        check_known([counter], self._starts)
        starts = dict(self._starts)
        starts[counter] = start
        return Scheme(starts, self._kinds, follows=self._followers, begins=self._beginners)

    def with_deeds(self, kind, deeds):
        """Return the scheme in which a kind has other deeds."""
        return self._with_kind(kind, deeds, self.label(kind))

    def with_label(self, kind, label):
        """Return the scheme in which a kind has another label, or none."""
        return self._with_kind(kind, self.deeds(kind), label)

    def _with_kind(self, kind, deeds, label):
        """Return the scheme in which one of the kinds has these deeds and this label."""
        kinds = dict(self._kinds)
        kinds[kind] = (deeds, label)
        return Scheme(self._starts, kinds, follows=self._followers, begins=self._beginners)


def check_starts(starts):
    """Raise the error that is due if a dict does not tell counters and their starts."""
    check_names(starts, MOST_COUNTERS)
    for counter in sorted(starts):
        if not is_within(starts[counter], 0, GREATEST_NUMBER):
            raise BadNumber(starts[counter])


def check_kinds(kinds, starts):
    """Raise the error that is due if a dict does not tell kinds with deeds and labels."""
    check_names(kinds, MOST_KINDS)
    for kind in sorted(kinds):
        deeds, label = kinds[kind]
        check_deeds(deeds, starts)
        if label is not None and not is_label_of(label, starts):
            raise BadLabel()


def check_names(names, most):
    """Raise the error that is due if there are not one to so many names."""
    if not 1 <= len(names) <= most:
        raise BadCount(len(names))
    for name in sorted(names):
        if not is_name(name):
            raise BadName(name)


def check_deeds(deeds, starts):
    """Raise the error that is due if a kind cannot have these deeds."""
    if len(deeds) > MOST_DEEDS:
        raise BadCount(len(deeds))
    for deed in deeds:
        if not is_deed(deed, starts):
            raise BadDeed(deed)


def is_label_of(value, starts):
    """Tell whether a value of any kind is a label that shows only counters of a scheme."""
    if not isinstance(value, Label):
        return False
    return all([counter in starts for counter, _ in value.shown])


def check_follows(follows, kinds):
    """Raise the error that is due if a dict, or None, does not tell which kinds may follow which."""
    if follows is None:
        return
    # No item counts before all keys are known to be kinds.
    check_known(sorted(follows), kinds)
    for kind in sorted(follows):
        check_known(follows[kind], kinds)


def check_known(names, known):
    """Raise the error that is due if one of some names, or of None, is not known."""
    if names is None:
        return
    for name in names:
        if name not in known:
            raise UnknownName(name)


def told_followers(follows, kind):
    """Return what the constructor is told of the followers of a kind: their names, or None for all kinds."""
    if follows is None:
        return None
    return follows.get(kind, ())


def picked(names, kinds):
    """Return the ascending list of those kinds that have one of some names, or of all kinds for None."""
    return [kind for kind in sorted(kinds) if names is None or kind in names]
