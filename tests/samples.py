"""Schemes and values for the tests. What a scheme is made from is told in plain dicts and lists."""

import itertools
import random
import unittest

from partlabels.errors import PartError
from partlabels.labels import Label, read_label
from partlabels.schemes import Scheme

NAMES = ["a", "b", "chapter", "figure", "k", "section", "table", "x", "y", "zzzzzzzz"]
NO_INTEGERS = [True, False, None, "", "0", "1", 1.0, 0.5, [], [1], (), (1,), {}, b"1"]
NO_NAMES = ["", "A", "a b", "a1", "abcdefghi", "a\n", "a:", ":", "{a}", "\xe9", "-"]
NO_LABELS = [True, False, 0, 1, "", "label", "{a}", "Chapter {a}", [], (), {}, ("", [("a", "figures")]), Label]
NO_DEEDS = [True, None, "", "add", "add a 1", 1, [], (), {}, ["add", "a", 1], ("add",), ("add", "a"),
            ("add", "a", 1, 1), ("Add", "a", 1), ("adds", "a", 1), ("", "a", 1), (None, "a", 1), (["add"], "a", 1),
            (1, "a", 1), ("add", "q", 1), ("add", "A", 1), ("add", "", 1), ("add", None, 1), ("add", ["a"], 1),
            ("add", 1, "a"), ("a", "add", 1), ("add", "a", 0), ("add", "a", 100), ("add", "a", -1),
            ("add", "a", 10 ** 30), ("add", "a", True), ("add", "a", "1"), ("add", "a", None), ("add", "a", 1.0),
            ("add", "a", [1]), ("set", "a", -1), ("set", "a", 100), ("set", "a", False), ("set", "q", 1),
            ("set", "a", "1"), ("set", "a", 2.0), ("sub", "a", 1), (("add", "a", 1),), "adda1", {"add": "a", 1: 1}]


class Case(unittest.TestCase):
    def check_error(self, error, arguments, function, *passed, **named):
        """Check that a call raises just this error, which keeps just these arguments."""
        with self.assertRaises(PartError) as caught:
            function(*passed, **named)
        self.assertIs(type(caught.exception), error)
        found = list(vars(caught.exception).values())
        self.assertEqual(found, arguments)
        self.assertEqual([type(value) for value in found], [type(value) for value in arguments])


def book():
    """The scheme that the document uses as its example."""
    chapter = ([("add", "chapter", 1), ("set", "figure", 0)], read_label("Chapter {chapter}"))
    figure = ([("add", "figure", 1)], read_label("Figure {chapter}.{figure}"))
    return Scheme({"chapter": 0, "figure": 0}, {"chapter": chapter, "figure": figure}, begins=["chapter"])


def some_deeds(rng, counters, most=6):
    deeds = []
    for _ in range(rng.randint(0, most)):
        word = rng.choice(["add", "set"])
        deeds.append((word, rng.choice(counters), rng.choice([1, 99, rng.randint(1 if word == "add" else 0, 99)])))
    return deeds


def some_label(rng, counters):
    if rng.random() < 0.3:
        return None
    names = rng.sample(counters, rng.randint(1, len(counters)))
    shown = [(name, rng.choice(["figures", "letters"])) for name in names]
    joints = [rng.choice(".:/") for _ in names[1:]]
    return Label(rng.choice(["", "Figure ", "A b Cd "]), shown, joints)


def some_names(rng, names):
    """A list of some of the names, in any order, some of them twice."""
    chosen = [name for name in names if rng.random() < 0.5]
    chosen = chosen + [name for name in chosen if rng.random() < 0.3]
    rng.shuffle(chosen)
    return chosen


def told(seed):
    """Return what a scheme is made from: starts, kinds, follows and begins."""
    rng = random.Random(seed)
    counters = rng.sample(NAMES, 1 + seed % 4)
    kinds = rng.sample(NAMES, 1 + seed // 4 % 6)
    starts = {counter: rng.choice([0, 99, rng.randint(0, 99)]) for counter in counters}
    parts = {kind: (some_deeds(rng, counters), some_label(rng, counters)) for kind in kinds}
    follows = {kind: some_names(rng, kinds) for kind in kinds if rng.random() < 0.8}
    begins = some_names(rng, kinds)
    return {"starts": starts, "kinds": parts, "follows": rng.choice([None, follows, follows]),
            "begins": rng.choice([None, begins, begins])}


def made(plain):
    """Return the scheme that is made from what `told` returns."""
    return Scheme(plain["starts"], plain["kinds"], follows=plain["follows"], begins=plain["begins"])


def all_told(many=96):
    return [told(seed) for seed in range(many)]


def begins_of(plain):
    return sorted(set(plain["kinds"] if plain["begins"] is None else plain["begins"]))


def follows_of(plain, kind):
    if plain["follows"] is None:
        return sorted(plain["kinds"])
    return sorted(set(plain["follows"].get(kind, [])))


def first_wrong(plain, row):
    """The index of the first part that cannot stand at its place, or None."""
    for index, kind in enumerate(row):
        let = begins_of(plain) if index == 0 else follows_of(plain, row[index - 1])
        if kind not in let:
            return index
    return None


def all_documents(plain, length):
    """All documents with so many parts, found among all rows of kinds, in ascending order."""
    rows = itertools.product(sorted(plain["kinds"]), repeat=length)
    return [list(row) for row in rows if first_wrong(plain, row) is None]


def values_behind(plain, row, values):
    """The values behind a row of parts, carried out deed by deed."""
    now = dict(values)
    for kind in row:
        for word, counter, number in plain["kinds"][kind][0]:
            now[counter] = number if word == "set" else now[counter] + number
    return now


def labels_in(plain, document):
    """The labels of the parts, each one found from the beginning."""
    found = []
    for index, kind in enumerate(document):
        label = plain["kinds"][kind][1]
        now = values_behind(plain, document[:index + 1], plain["starts"])
        found.append(None if label is None else label.of(now))
    return found


def walk(plain, seed, most):
    """One document with up to so many parts."""
    rng = random.Random(seed)
    document = []
    while len(document) < most:
        let = follows_of(plain, document[-1]) if document else begins_of(plain)
        if not let:
            break
        document.append(rng.choice(let))
    return document


def small_told(seed, most_counters=3, most_kinds=3, most_deeds=3, greatest=2):
    """What a scheme with small numbers is made from, so that its values often agree by chance."""
    rng = random.Random(f"small {seed}")
    counters = list("abcd")[:rng.randint(1, most_counters)]
    kinds = list("klmnop")[:rng.randint(1, most_kinds)]
    parts = {}
    for kind in kinds:
        words = [rng.choice(["add", "add", "set"]) for _ in range(rng.randint(0, most_deeds))]
        deeds = [(word, rng.choice(counters), rng.randint(word == "add", greatest)) for word in words]
        parts[kind] = (deeds, some_label(rng, counters))
    follows = {kind: [other for other in kinds if rng.random() < 0.7] for kind in kinds}
    begins = [kind for kind in kinds if rng.random() < 0.6]
    return {"starts": {counter: rng.randint(0, greatest) for counter in counters}, "kinds": parts,
            "follows": rng.choice([None, follows, follows]), "begins": rng.choice([None, begins, begins])}


def great_told(seed):
    """What a scheme at the limits is made from: four counters, six kinds, six deeds each."""
    rng = random.Random(f"great {seed}")
    counters, kinds = rng.sample(NAMES, 4), rng.sample(NAMES, 6)
    parts = {}
    for kind in kinds:
        words = [rng.choice(["add"] * (seed % 4 + 1) + ["set"]) for _ in range(6)]
        deeds = [(word, rng.choice(counters), rng.randint(1, 99)) for word in words]
        shown = [(name, rng.choice(["figures", "letters"])) for name in rng.sample(counters, 4)]
        parts[kind] = (deeds, Label(rng.choice(["", "Part "]), shown, [".", "/", ":"]))
    follows = {kind: [other for other in kinds if rng.random() < 0.8] for kind in kinds}
    return {"starts": {counter: rng.randint(0, 99) for counter in counters}, "kinds": parts,
            "follows": rng.choice([None, follows]), "begins": None}


def some_documents(plain, most=2000, longest=8):
    """All documents of the lengths from 1 on, as many lengths as stay below a number of documents."""
    found = []
    latest = [[kind] for kind in begins_of(plain)]
    for _ in range(longest):
        if not latest or len(found) + len(latest) > most:
            break
        found.extend(latest)
        latest = [[*document, kind] for document in latest for kind in follows_of(plain, document[-1])]
    return found


def long_walks(plain, seeds=6, most=60):
    """Some documents of up to so many parts."""
    walks = [walk(plain, f"long {seed}", most - 7 * seed) for seed in range(seeds)]
    return [document for document in walks if document]


def reached_in(plain):
    """The kinds that some document has, found by going on and on."""
    found = set(begins_of(plain))
    for _ in plain["kinds"]:
        found.update(other for kind in list(found) for other in follows_of(plain, kind))
    return found


def labelled(plain):
    """The kinds that are reached and have a label."""
    return sorted(kind for kind in reached_in(plain) if plain["kinds"][kind][1] is not None)


def shown_by(plain, kind):
    """The counters that the label of a kind shows, in order."""
    return [counter for counter, _ in plain["kinds"][kind][1].shown]


def rank(rows):
    """The number of rows among some that no others sum up to, found by remainders of a great prime number."""
    prime = 2 ** 521 - 1
    left = [[number % prime for number in row] for row in rows]
    many = 0
    for place in range(len(left[0]) if left else 0):
        found = next((row for row in left if row[place]), None)
        if found is None:
            continue
        many += 1
        left.remove(found)
        turned = pow(found[place], -1, prime)
        for at, row in enumerate(left):
            if row[place]:
                factor = row[place] * turned
                left[at] = [(number - factor * other) % prime for number, other in zip(row, found)]
    return many
