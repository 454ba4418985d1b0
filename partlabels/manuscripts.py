"""Manuscripts: documents that are edited, whose parts can be referred to by keys."""

from partlabels.documents import labels, wrong_part
from partlabels.errors import BadKey, KeyTaken, NotDocument, NothingToUndo, NotLet, UnknownKey, UnknownName
from partlabels.integers import is_within
from partlabels.names import is_name


class Manuscript:
    """A document of a scheme that is edited, at first the empty one."""

    def __init__(self, scheme):
        self._scheme = scheme
        self._now = Version((), None)

    def put(self, index, kind, *, key=None):
        """Put in a part ahead of the one with an index, or at the end."""
        row = self._now.row
        check_index(index, len(row))
        if kind not in self._scheme.kinds():
            raise UnknownName(kind)
        check_key(key, row)
        self._change((*row[:index], (kind, key), *row[index:]))

    def drop(self, index):
        """Take out a part."""
        row = self._now.row
        check_index(index, len(row) - 1)
        self._change((*row[:index], *row[index + 1:]))

    def exchange(self, index):
        """Exchange a part with the next one."""
        row = self._now.row
        check_index(index, len(row) - 2)
        self._change((*row[:index], row[index + 1], row[index], *row[index + 2:]))

    def move(self, index, target):
        """Take out a part and put it in so that it has the index `target`."""
        row = self._now.row
        check_index(index, len(row) - 1)
        check_index(target, len(row) - 1)
        others = (*row[:index], *row[index + 1:])
        self._change((*others[:target], row[index], *others[target:]))

    def rekey(self, index, key):
        """Give a part another key, or None."""
        row = self._now.row
        check_index(index, len(row) - 1)
        others = (*row[:index], *row[index + 1:])
        check_key(key, others)
        kind, _ = row[index]
        self._change((*row[:index], (kind, key), *row[index + 1:]))

    def parts(self):
        """Return the list of the tuples of the kind and the key of each part."""
        return list(self._now.row)

    def document(self):
        """Return the list of the kinds of the parts."""
        return kinds_in(self._now.row)

    def labels(self):
        """Return the list of the labels of the parts, strings or None."""
        return labels(self._scheme, kinds_in(self._now.row))

    def scheme(self):
        """Return the scheme."""
        return self._scheme

    def __len__(self):
        return len(self._now.row)

    def label_of(self, key):
        """Return the label of the part with a key, a string or None."""
        return self.labels()[self.place_of(key)]

    def place_of(self, key):
        """Return the index of the part with a key."""
        if key is not None:
            for index, (_, other) in enumerate(self._now.row):
                if other == key:
                    return index
        raise UnknownKey(key)

    def told(self, text):
        """Return a text with labels in the place of the keys that stand in it between braces."""
        texts = keyed_labels(self._scheme, self._now.row)
        head, *pieces = text.split("{")
        found = [head]
        for piece in pieces:
            key, brace, rest = piece.partition("}")
            if brace == "":
                found.append("{" + piece)
            elif key not in texts:
                raise UnknownKey(key)
            else:
                found.append((texts[key] or "") + rest)
        return "".join(found)

    def changed(self):
        """Return the ascending list of the keys before and behind the latest change with unlike labels."""
        if self._now.before is None:
            return []
        old = keyed_labels(self._scheme, self._now.before.row)
        new = keyed_labels(self._scheme, self._now.row)
        return sorted([key for key in new if key in old and old[key] != new[key]])

    def undo(self):
        """Take back the latest change that has not been taken back."""
        if self._now.before is None:
            raise NothingToUndo()
        self._now = self._now.before

    def trial(self):
        """Return an object for a `with` block behind which the manuscript is as it was before."""
        return Trial(self)

    def tried(self, action):
        """Return what a function returns for the manuscript, which then is as it was before."""
        with self.trial() as manuscript:
            return action(manuscript)

    def _change(self, row):
        """Make these the parts, unless they are no document."""
        kinds = kinds_in(row)
        wrong = wrong_part(self._scheme, None, kinds)
        if wrong == 0:
            raise NotLet(None, kinds[0])
        if wrong is not None:
            raise NotLet(kinds[wrong - 1], kinds[wrong])
        self._now = Version(row, self._now)


class Version:
    """The parts of a manuscript at some time, and the version before the change that led to them.

    A version never changes. So a manuscript is as it was once it has a version that it had.
    """

    def __init__(self, row, before):
        self.row = tuple(row)
        self.before = before


class Trial:
    """A `with` block behind which a manuscript is as it was at its beginning."""

    def __init__(self, manuscript):
        self._manuscript = manuscript
        self._kept = None

    def __enter__(self):
        self._kept = self._manuscript._now
        return self._manuscript

    def __exit__(self, kind, value, trace):
        manuscript = self._manuscript
        manuscript._now = self._kept


def kinds_in(row):
    """Return the list of the kinds of some parts."""
    return [kind for kind, _ in row]


def keyed_labels(scheme, row):
    """Return the dict from the keys of some parts to their labels."""
    texts = labels(scheme, kinds_in(row))
    return {key: text for (_, key), text in zip(row, texts) if key is not None}


def check_index(index, greatest):
    """Raise the error that is due unless a value of any kind is an index up to the greatest one."""
    if not is_within(index, 0, greatest):
        raise NotDocument(index)


def check_key(key, others):
    """Raise the error that is due unless a value of any kind can be a key beside other parts."""
    if key is None:
        return
    if not is_name(key):
        raise BadKey(key)
    if key in [other for _, other in others]:
        raise KeyTaken(key)
