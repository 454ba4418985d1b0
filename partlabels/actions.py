"""Actions: what rows of parts do to the counters, all deeds taken together."""

from partlabels.errors import BadChange, BadNumber, BadTimes, UnknownName
from partlabels.integers import is_natural
from partlabels.names import is_name


class Action:
    """What is added to each counter, or to what it is set."""

    def __init__(self, changes):
        for counter in sorted(changes):
            if not is_name(counter) or not is_change(changes[counter]):
                raise BadChange(counter)
        # Kept in ascending order, as `str` tells them.
        self._changes = {counter: changes[counter] for counter in sorted(changes) if changes[counter] != ("add", 0)}

    def changes(self):
        """Return the dict from counters to what is done to them, without what adds 0."""
        return dict(self._changes)

    def of(self, values):
        """Return the dict of the values that counters have behind this action."""
        for counter in sorted(values):
            if not is_natural(values[counter]):
                raise BadNumber(values[counter])
        return {counter: changed(values[counter], self._changes.get(counter, ("add", 0))) for counter in values}

    def __add__(self, other):
        if not isinstance(other, Action):
            return NotImplemented
        return Action(one_and_then(self._changes, other._changes))

    def __mul__(self, other):
        if not is_natural(other):
            raise BadTimes(other)
        if other == 0:
            return Action({})
        return Action({counter: repeated(change, other) for counter, change in self._changes.items()})

    def __eq__(self, other):
        return isinstance(other, Action) and self._changes == other._changes

    def __str__(self):
        if len(self._changes) == 0:
            return "nothing"
        return ", ".join([f"{word} {counter} {number}" for counter, (word, number) in self._changes.items()])


def kind_action(scheme, kind):
    """Return the action of the deeds of a kind."""
    total = Action({})
    for word, counter, number in scheme.deeds(kind):
        total = total + Action({counter: (word, number)})
    return total


def action_of(scheme, kinds):
    """Return the action of a list of kinds, one after the other."""
    actions = {kind: kind_action(scheme, kind) for kind in scheme.kinds()}
    total = Action({})
    for kind in kinds:
        if kind not in actions:
            raise UnknownName(kind)
        total = total + actions[kind]
    return total


def is_change(value):
    """Tell whether a value of any kind is a tuple `("add", n)` or `("set", n)`."""
    if not isinstance(value, tuple) or len(value) != 2:
        return False
    return isinstance(value[0], str) and value[0] in ("add", "set") and is_natural(value[1])


def changed(value, change):
    """Return the value of a counter behind a change."""
    word, number = change
    if word == "set":
        return number
    return value + number


def one_and_then(first, second):
    """Return the dict of the changes that do what the first dict tells, and then what the second one tells."""
    found = dict(first)
    for counter, (word, number) in second.items():
        if word == "add" and counter in first:
            # What comes first stays an addition or a setting.
            found[counter] = (first[counter][0], first[counter][1] + number)
        else:
            found[counter] = (word, number)
    return found


def repeated(change, times):
    """Return the change that does the same as one that is done so many times, at least once."""
    word, number = change
    if word == "set":
        return change
    return (word, number * times)
