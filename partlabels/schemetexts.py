"""The texts of schemes: writing and reading them."""

from partlabels.deeds import is_deed
from partlabels.errors import BadLine, BadText
from partlabels.formats import figures, read_figures
from partlabels.labels import read_label
from partlabels.limits import GREATEST_NUMBER, MOST_COUNTERS, MOST_DEEDS, MOST_KINDS
from partlabels.names import is_name
from partlabels.schemes import Scheme


def scheme_text(scheme):
    """Return the text of a scheme."""
    starts = [f"{counter} {figures(scheme.start(counter))}" for counter in scheme.counters()]
    lines = [listed("counters", starts, ", ")]
    for kind in scheme.kinds():
        deeds = [f"{word} {counter} {figures(number)}" for word, counter, number in scheme.deeds(kind)]
        lines.append(listed(f"kind {kind}:", deeds, ", "))
        label = scheme.label(kind)
        if label is not None:
            lines.append("label " + label.text())
    lines.append(listed("begins", scheme.beginners(), " "))
    for kind in scheme.kinds():
        lines.append(listed(f"after {kind}:", scheme.followers(kind), " "))
    return "\n".join(lines)


def read_scheme(text):
    """Return the scheme with this text."""
    lines = text.split("\n")
    draft = Draft()
    for index, line in enumerate(lines):
        try:
            draft.take(line)
        except BadText:
            raise BadLine(index + 1) from None
    if not draft.is_whole():
        raise BadLine(len(lines) + 1)
    return draft.scheme()


class Draft:
    """What the lines that were taken so far tell of a scheme.

    Each line that is taken leaves a draft that further lines can make whole: what one line
    tells never bars what later ones must tell.
    """

    def __init__(self):
        self._starts = None
        self._kinds = {}
        self._begins = None
        self._follows = {}

    def take(self, line):
        """Take one more line; raise BadText if no text of a scheme goes on with it."""
        if self._starts is None:
            self._starts = read_starts(line)
        elif self._begins is not None:
            self._take_followers(line)
        elif line.startswith("kind "):
            self._take_kind(line)
        elif line.startswith("label "):
            self._take_label(line)
        else:
            self._take_beginners(line)

    def is_whole(self):
        """Tell whether the lines are all lines of a text."""
        return self._begins is not None and len(self._follows) == len(self._kinds)

    def scheme(self):
        """Return the scheme that the lines tell."""
        return Scheme(self._starts, self._kinds, follows=self._follows, begins=self._begins)

    def _take_kind(self, line):
        kind = line.removeprefix("kind ").partition(":")[0]
        check_ascending([*self._kinds, kind])
        if not is_name(kind) or len(self._kinds) == MOST_KINDS:
            raise BadText()
        deeds = [read_deed(piece, self._starts) for piece in pieces_of(f"kind {kind}:", line, ", ")]
        if len(deeds) > MOST_DEEDS:
            raise BadText()
        self._kinds[kind] = (deeds, None)

    def _take_label(self, line):
        if len(self._kinds) == 0:
            raise BadText()
        kind = list(self._kinds)[-1]
        deeds, before = self._kinds[kind]
        if before is not None:
            raise BadText()
        label = read_label(line.removeprefix("label "))
        check_among([counter for counter, _ in label.shown], self._starts)
        self._kinds[kind] = (deeds, label)

    def _take_beginners(self, line):
        if len(self._kinds) == 0:
            raise BadText()
        self._begins = read_kinds("begins", line, self._kinds)

    def _take_followers(self, line):
        if self.is_whole():
            raise BadText()
        kind = list(self._kinds)[len(self._follows)]
        self._follows[kind] = read_kinds(f"after {kind}:", line, self._kinds)


def listed(head, pieces, between):
    """Return the line with this head and the pieces behind it, if there are some."""
    if len(pieces) == 0:
        return head
    return head + " " + between.join(pieces)


def pieces_of(head, line, between):
    """Return the pieces of the line that `listed` makes of them."""
    if line == head:
        return []
    if not line.startswith(head + " "):
        raise BadText()
    return line.removeprefix(head + " ").split(between)


def read_starts(line):
    """Return the dict from counters to their starts that the first line tells."""
    starts = {}
    for piece in pieces_of("counters", line, ", "):
        counter, _, start = piece.partition(" ")
        check_ascending([*starts, counter])
        if not is_name(counter):
            raise BadText()
        starts[counter] = read_start(start)
    if not 1 <= len(starts) <= MOST_COUNTERS:
        raise BadText()
    return starts


def read_start(text):
    """Return the start with this text."""
    number = read_figures(text)
    if number > GREATEST_NUMBER:
        raise BadText()
    return number


def read_deed(text, starts):
    """Return the deed with this text, which must be one on a counter with a start."""
    words = text.split(" ")
    if len(words) != 3:
        raise BadText()
    deed = (words[0], words[1], read_figures(words[2]))
    if not is_deed(deed, starts):
        raise BadText()
    return deed


def read_kinds(head, line, kinds):
    """Return the ascending list of kinds that a line with this head tells."""
    names = pieces_of(head, line, " ")
    check_ascending(names)
    check_among(names, kinds)
    return names


def check_ascending(names):
    """Raise BadText unless each name comes behind the one before it in ascending order."""
    if not all([first < second for first, second in zip(names, names[1:])]):
        raise BadText()


def check_among(names, known):
    """Raise BadText unless all names are known."""
    if not all([name in known for name in names]):
        raise BadText()
