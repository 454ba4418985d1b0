"""The errors that are due when a kind is asked for that no document has."""

from partlabels.documents import reached
from partlabels.errors import NoDocument, NoLabel, UnknownName


def check_reached(scheme, kind):
    """Raise the error that is due unless some document has a part of a kind."""
    if kind not in scheme.kinds():
        raise UnknownName(kind)
    if kind not in reached(scheme):
        raise NoDocument(kind)


def check_labelled(scheme, kind):
    """Raise the error that is due unless some document has a part of a kind, and that a label."""
    check_reached(scheme, kind)
    if scheme.label(kind) is None:
        raise NoLabel(kind)
