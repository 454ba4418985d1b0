"""The errors of the package. Each one keeps its arguments as attributes."""


class PartError(ValueError):
    """The base class of all errors of the package."""


class BadText(PartError):
    """A string is not a text of the kind that is read."""


class BadLine(PartError):
    """No text of a scheme begins with the lines up to this one."""

    def __init__(self, line):
        self.line = line


class BadName(PartError):
    """A counter or a kind is called by something that is no name."""

    def __init__(self, name):
        self.name = name


class UnknownName(PartError):
    """There is no counter, or no kind, of this name."""

    def __init__(self, name):
        self.name = name


class BadNumber(PartError):
    """A number is not an integer, or not one within the range that is due."""

    def __init__(self, number):
        self.number = number


class BadCount(PartError):
    """There are too few or too many of something."""

    def __init__(self, count):
        self.count = count


class BadDeed(PartError):
    """A value is not a deed on a counter of the scheme."""

    def __init__(self, deed):
        self.deed = deed


class BadLabel(PartError):
    """A value is not a label that shows counters of the scheme."""


class BadRow(PartError):
    """A value is not a row for the scheme."""


class BadHead(PartError):
    """A string is not the head of a label."""

    def __init__(self, value):
        self.value = value


class BadShown(PartError):
    """A label cannot show the item with this index."""

    def __init__(self, index):
        self.index = index


class BadJoints(PartError):
    """The joints do not fit between the counters of a label."""


class BadChange(PartError):
    """An action cannot do this to the counter."""

    def __init__(self, counter):
        self.counter = counter


class BadTimes(PartError):
    """An action cannot be done so many times."""

    def __init__(self, times):
        self.times = times


class BadWeight(PartError):
    """The weight of the counter is not an integer."""

    def __init__(self, counter):
        self.counter = counter


class NotDocument(PartError):
    """The part, or the block, with this index cannot stand at its place."""

    def __init__(self, index):
        self.index = index


class NoDocument(PartError):
    """No document has a part of this kind."""

    def __init__(self, kind):
        self.kind = kind


class NoLabel(PartError):
    """The parts of this kind have no label."""

    def __init__(self, kind):
        self.kind = kind


class UnlikeSchemes(PartError):
    """Two schemes do not have the same documents."""


class BadKey(PartError):
    """A key is neither a name nor None."""

    def __init__(self, key):
        self.key = key


class KeyTaken(PartError):
    """Another part has this key."""

    def __init__(self, key):
        self.key = key


class UnknownKey(PartError):
    """No part has this key."""

    def __init__(self, key):
        self.key = key


class NotLet(PartError):
    """A part of the kind `other` may not come behind one of the kind `kind`."""

    def __init__(self, kind, other):
        self.kind = kind
        self.other = other


class NothingToUndo(PartError):
    """There is no change that could be taken back."""
