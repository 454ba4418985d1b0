"""Labels: the templates from which the parts of documents get their labels."""

from partlabels.errors import BadHead, BadJoints, BadShown, BadText, UnknownName
from partlabels.formats import figures, letters, read_figures, read_letters
from partlabels.names import is_name

FORMATS = ("figures", "letters")
JOINTS = (".", ":", "/")
LONGEST_HEAD = 30
MOST_SHOWN = 4


class Label:
    """A head, and counters with their formats and the joints between them."""

    def __init__(self, head, shown, joints=()):
        if not is_head(head):
            raise BadHead(head)
        wrong = wrong_item(shown)
        if wrong is not None:
            raise BadShown(wrong)
        if not fit_between(joints, shown):
            raise BadJoints()
        self._head = head
        self._shown = tuple(shown)
        self._joints = tuple(joints)

    @property
    def head(self):
        """The string ahead of the first counter."""
        return self._head

    @property
    def shown(self):
        """The tuple of the tuples of a counter and its format."""
        return self._shown

    @property
    def joints(self):
        """The tuple of the strings between the counters."""
        return self._joints

    def __eq__(self, other):
        return (isinstance(other, Label) and self._head == other._head
                and self._shown == other._shown and self._joints == other._joints)

    def same_form(self, other):
        """Tell whether another label differs from this one at most in its counters."""
        if self._head != other.head or self._joints != other.joints:
            return False
        return [form for _, form in self._shown] == [form for _, form in other.shown]

    def of(self, values):
        """Return the text that this label gives for a dict from counters to integers."""
        for counter, _ in self._shown:
            if counter not in values:
                raise UnknownName(counter)
        texts = [number_text(form, values[counter]) for counter, form in self._shown]
        return self._head + joined(texts, self._joints)

    def read(self, text):
        """Return the dict from counters to the numbers that give this text, or None."""
        if not text.startswith(self._head):
            return None
        pieces = parted(text[len(self._head):], self._joints)
        try:
            return {counter: read_number(form, piece)
                    for (counter, form), piece in zip(self._shown, pieces)}
        except BadText:
            return None

    def text(self):
        """Return this label itself as a text, such as `Figure {chapter}.{figure:a}`."""
        texts = [shown_text(counter, form) for counter, form in self._shown]
        return self._head + joined(texts, self._joints)


def read_label(text):
    """Return the label with this text."""
    head, *pieces = text.split("{")
    shown = [read_shown(piece) for piece in pieces]
    joints = [piece.partition("}")[2] for piece in pieces[:-1]]
    try:
        label = Label(head, shown, joints)
    except (BadHead, BadShown, BadJoints):
        raise BadText() from None
    # The pieces were read without care for signs that are missing or too many;
    # exactly the texts of labels come out again as they went in.
    if label.text() != text:
        raise BadText()
    return label


def is_head(value):
    """Tell whether a value is a head: words of letters, each with one space behind it."""
    if not isinstance(value, str) or len(value) > LONGEST_HEAD:
        return False
    words = value.split(" ")
    return words[-1] == "" and all([word.isascii() and word.isalpha() for word in words[:-1]])


def wrong_item(shown):
    """Return the index of the first item that a label cannot show, 0 if there are no items, or None."""
    if len(shown) == 0:
        return 0
    counters = []
    for index, item in enumerate(shown):
        if index >= MOST_SHOWN or not is_shown(item) or item[0] in counters:
            return index
        counters.append(item[0])
    return None


def is_shown(item):
    """Tell whether a value is a tuple of a name and a format."""
    if not isinstance(item, tuple) or len(item) != 2:
        return False
    return is_name(item[0]) and isinstance(item[1], str) and item[1] in FORMATS


def fit_between(joints, shown):
    """Tell whether there is just one joint between each two items."""
    return len(joints) == len(shown) - 1 and all([joint in JOINTS for joint in joints])


def number_text(form, number):
    """Return the text of a number in one of the two formats."""
    if form == "letters":
        return letters(number)
    return figures(number)


def read_number(form, text):
    """Return the number with a text in one of the two formats."""
    if form == "letters":
        return read_letters(text)
    return read_figures(text)


def shown_text(counter, form):
    """Return what stands for a counter in the text of a label."""
    if form == "letters":
        return "{" + counter + ":a}"
    return "{" + counter + "}"


def read_shown(piece):
    """Return the counter and the format that stand behind a brace in the text of a label."""
    inside = piece.partition("}")[0]
    counter, _, mark = inside.partition(":")
    if mark == "a":
        return (counter, "letters")
    return (counter, "figures")


def joined(texts, joints):
    """Return the texts as one, with the joints between them."""
    pieces = [texts[0]]
    for joint, text in zip(joints, texts[1:]):
        pieces.append(joint)
        pieces.append(text)
    return "".join(pieces)


def parted(text, joints):
    """Return the pieces of a text between the joints, in order."""
    pieces = []
    rest = text
    for joint in joints:
        # Behind a joint that is missing all pieces are empty, and no number has an empty text.
        piece, _, rest = rest.partition(joint)
        pieces.append(piece)
    pieces.append(rest)
    return pieces
