"""Documents: which ones a scheme has, and what the counters and labels in them are."""

from partlabels.actions import action_of, kind_action
from partlabels.errors import BadCount, BadNumber, NoDocument, NotDocument, UnknownName
from partlabels.integers import is_natural

LONGEST_ROW = 20


def is_document(scheme, document):
    """Tell whether a list of strings is a document of a scheme."""
    return wrong_part(scheme, None, document) is None


def values(scheme, document):
    """Return the dict of the values of the counters behind the last part."""
    check_document(scheme, document)
    return action_of(scheme, document).of(starts_of(scheme))


def labels(scheme, document):
    """Return the list of the labels of all parts, strings or None."""
    check_document(scheme, document)
    actions = {kind: kind_action(scheme, kind) for kind in scheme.kinds()}
    now = starts_of(scheme)
    found = []
    for kind in document:
        now = actions[kind].of(now)
        found.append(label_text(scheme, kind, now))
    return found


def documents(scheme, length):
    """Yield all documents with so many parts, in ascending order."""
    if not is_natural(length):
        raise BadNumber(length)
    ways = ways_on(scheme)
    document = completed(ways, [], length)
    while document is not None:
        # The caller gets a list of its own, since the next document is made from this one.
        yield list(document)
        document = next_document(ways, document)


def reached(scheme):
    """Return the ascending list of the kinds that some document has."""
    return sorted(first_documents(scheme))


def shortest_document(scheme, kind):
    """Return the first, in ascending order, of the shortest documents that end with a kind."""
    if kind not in scheme.kinds():
        raise UnknownName(kind)
    firsts = first_documents(scheme)
    if kind not in firsts:
        raise NoDocument(kind)
    return firsts[kind]


def long_values(scheme, blocks):
    """Return the dict of the values behind a document that is told in blocks."""
    check_blocks(scheme, blocks)
    now = starts_of(scheme)
    for row, times in blocks:
        now = (action_of(scheme, row) * times).of(now)
    return now


def long_label(scheme, blocks):
    """Return the label of the last part of a document that is told in blocks."""
    if len(blocks) == 0:
        raise BadCount(0)
    now = long_values(scheme, blocks)
    last_row, _ = blocks[-1]
    return label_text(scheme, last_row[-1], now)


def starts_of(scheme):
    """Return the dict of the starts of the counters."""
    return {counter: scheme.start(counter) for counter in scheme.counters()}


def label_text(scheme, kind, now):
    """Return the label of a part of a kind with these values behind it, a string or None."""
    label = scheme.label(kind)
    if label is None:
        return None
    return label.of(now)


def wrong_part(scheme, before, row):
    """Return the index of the first kind of a row that cannot stand behind the one before, or None.

    Ahead of the row stands the kind `before`, or nothing if this is None.
    """
    known = scheme.kinds()
    last = before
    for index, kind in enumerate(row):
        if kind not in known:
            return index
        if last is None:
            fits = scheme.may_begin(kind)
        else:
            fits = scheme.may_follow(last, kind)
        if not fits:
            return index
        last = kind
    return None


def check_document(scheme, document):
    """Raise the error that is due if a list is not a document."""
    wrong = wrong_part(scheme, None, document)
    if wrong is not None:
        raise NotDocument(wrong)


def check_blocks(scheme, blocks):
    """Raise the error that is due if blocks do not tell a document."""
    for row, _ in blocks:
        if not 1 <= len(row) <= LONGEST_ROW:
            raise BadCount(len(row))
    for _, times in blocks:
        if not is_natural(times) or times == 0:
            raise BadNumber(times)
    last = None
    for index, (row, times) in enumerate(blocks):
        if wrong_part(scheme, last, row) is not None:
            raise NotDocument(index)
        last = row[-1]
        # The second time shows whether all further times fit.
        if times > 1 and wrong_part(scheme, last, row) is not None:
            raise NotDocument(index)


def first_documents(scheme):
    """Return the dict from the reached kinds to their first shortest documents."""
    firsts = {kind: [kind] for kind in scheme.beginners()}
    latest = scheme.beginners()
    # In each round the kinds are in the order of their documents, so the first document
    # that is found for a kind comes ahead of all others of its length.
    while len(latest) > 0:
        found = []
        for kind in latest:
            for other in scheme.followers(kind):
                if other not in firsts:
                    firsts[other] = [*firsts[kind], other]
                    found.append(other)
        latest = found
    return firsts


def ways_on(scheme):
    """Return the list of the kinds that a part can have if so many parts are to come behind it.

    Each item is a dict from the kind of the part before, or None at the beginning, to an ascending list.
    """
    kinds = scheme.kinds()
    lasting = kinds
    ways = []
    # Behind as many parts as there are kinds, one of these has come twice, and so can come ever
    # again: the last item stands for all greater numbers as well.
    for _ in range(len(kinds) + 1):
        way = {kind: [other for other in scheme.followers(kind) if other in lasting] for kind in kinds}
        way[None] = [kind for kind in scheme.beginners() if kind in lasting]
        ways.append(way)
        lasting = [kind for kind in kinds if len(way[kind]) > 0]
    return ways


def choices(ways, begun, length):
    """Return the ascending list of the kinds with which a row can go on to a document with so many parts."""
    to_come = length - len(begun) - 1
    way = ways[min(to_come, len(ways) - 1)]
    if len(begun) == 0:
        return way[None]
    return way[begun[-1]]


def completed(ways, begun, length):
    """Return the first document with so many parts that begins with a row, or None."""
    document = list(begun)
    while len(document) < length:
        kinds = choices(ways, document, length)
        if len(kinds) == 0:
            return None
        document.append(kinds[0])
    return document


def next_document(ways, document):
    """Return the next document, in ascending order, with as many parts as a document has, or None."""
    length = len(document)
    for place in reversed(range(length)):
        begun = document[:place]
        for kind in choices(ways, begun, length):
            if kind > document[place]:
                return completed(ways, [*begun, kind], length)
    return None
