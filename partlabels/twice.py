"""Labels that come twice, and papers that show that none does."""

from partlabels.changes import all_changes
from partlabels.checks import check_labelled
from partlabels.documents import shortest_document
from partlabels.showing import shown_counters
from partlabels.walks import ways_from

MARKS = ("kept", "added", "set")


def twice(scheme, kind):
    """Return a document and the indexes of two parts of a kind with the same label in it, or None."""
    check_labelled(scheme, kind)
    cases = case_ways(scheme, kind)
    for last, marks in cases:
        if last == kind and "added" not in marks:
            # Behind the way, the counters that it sets have values that the same way sets once more.
            way = cases[(last, marks)]
            document = [*shortest_document(scheme, kind), *way, *way]
            return (document, len(document) - len(way) - 1, len(document) - 1)
    return None


def once_paper(scheme, kind):
    """Return a paper that shows that no label of a kind comes twice, or None if one does."""
    if twice(scheme, kind) is not None:
        return None
    return list(case_ways(scheme, kind))


def check_once(scheme, kind, paper):
    """Tell whether a list of cases is a paper that shows that no label of a kind comes twice."""
    check_labelled(scheme, kind)
    shown = shown_counters(scheme, kind)
    if not all([is_case(scheme, len(shown), last, marks) for last, marks in paper]):
        return False
    steps = kind_marks(scheme, shown)
    known = {case: True for case in paper}
    needed = next_cases(scheme, steps, (kind, no_marks(shown)))
    for case in paper:
        needed.extend(next_cases(scheme, steps, case))
    if not all([case in known for case, _ in needed]):
        return False
    return all(["added" in marks for last, marks in paper if last == kind])


def case_ways(scheme, kind):
    """Return the dict from all cases behind a part of a kind to shortest ways to them from this part."""
    shown = shown_counters(scheme, kind)
    steps = kind_marks(scheme, shown)
    begun = next_cases(scheme, steps, (kind, no_marks(shown)))
    return ways_from([(first, [last]) for first, last in begun], lambda case: next_cases(scheme, steps, case))


def kind_marks(scheme, shown):
    """Return the dict from kinds to the marks that one part of the kind leaves at some counters."""
    changes = all_changes(scheme)
    return {kind: tuple([mark_of(changes[kind][counter]) for counter in shown]) for kind in changes}


def mark_of(change):
    """Return the mark of what is done to a counter."""
    if change == ("add", 0):
        return "kept"
    if change[0] == "add":
        return "added"
    return "set"


def no_marks(shown):
    """Return the marks at some counters before anything is done to them."""
    return tuple(["kept" for _ in shown])


def next_cases(scheme, steps, case):
    """Return the list of the cases with one part more, each with the kind of this part."""
    last, marks = case
    return [((kind, joined_marks(marks, steps[kind])), kind) for kind in scheme.followers(last)]


def joined_marks(marks, more):
    """Return the marks that two rows of parts leave, one behind the other."""
    return tuple([joined_mark(first, second) for first, second in zip(marks, more)])


def joined_mark(first, second):
    """Return the mark of what is done to one counter, first this and then that."""
    if "set" in (first, second):
        return "set"
    if "added" in (first, second):
        return "added"
    return "kept"


def is_case(scheme, many, last, marks):
    """Tell whether a string and a tuple of strings are a case with so many marks."""
    return last in scheme.kinds() and len(marks) == many and all([mark in MARKS for mark in marks])
