"""Points 37, 38 and 39: manuscripts, what they tell, and how changes are taken back."""

import random
import unittest

from partlabels.documents import is_document
from partlabels.errors import (BadKey, BadNumber, KeyTaken, NotDocument, NothingToUndo, NotLet, PartError, UnknownKey,
                               UnknownName)
from partlabels.labels import read_label
from partlabels.manuscripts import Manuscript
from partlabels.names import is_name
from samples import Case, NO_INTEGERS, NO_NAMES, all_told, book, first_wrong, labels_in, made, small_told

KEYS = ["a", "b", "map", "one", "two", "zzzzzzzz"]
ODD_KEYS = [True, False, 0, 1, 1.0, [], ["a"], ("a",), {}, b"a", object(), *NO_NAMES]


class Model:
    """What a manuscript is to be, kept as plain lists of all versions."""

    def __init__(self, plain):
        self.plain = plain
        self.versions = [[]]

    def parts(self):
        return self.versions[-1]

    def error(self, name, index, more=None, key=None):
        """The error that is due for an edit, with its arguments, or None."""
        parts = self.parts()
        many = len(parts) + {"put": 1, "exchange": -1}.get(name, 0)
        for value in (index, more) if name == "move" else (index,):
            if type(value) is not int or not 0 <= value < many:
                return NotDocument, [value]
        if name == "put" and more not in self.plain["kinds"]:
            return UnknownName, [more]
        if name in ("put", "rekey") and key is not None:
            if not isinstance(key, str) or not is_name(key):
                return BadKey, [key]
            others = [other for at, (_, other) in enumerate(parts) if name == "put" or at != index]
            if key in others:
                return KeyTaken, [key]
        kinds = [kind for kind, _ in self.edited(name, index, more, key)]
        wrong = first_wrong(self.plain, kinds)
        if wrong is not None:
            return NotLet, [kinds[wrong - 1] if wrong else None, kinds[wrong]]
        return None

    def edited(self, name, index, more=None, key=None):
        parts = list(self.parts())
        if name == "put":
            parts.insert(index, (more, key))
        elif name == "drop":
            parts.pop(index)
        elif name == "exchange":
            parts[index:index + 2] = [parts[index + 1], parts[index]]
        elif name == "move":
            parts.insert(more, parts.pop(index))
        else:
            parts[index] = (parts[index][0], key)
        return parts

    def labels(self, version=-1):
        return labels_in(self.plain, [kind for kind, _ in self.versions[version]])

    def by_key(self, version=-1):
        return {key: label for (_, key), label in zip(self.versions[version], self.labels(version)) if key is not None}

    def changed(self):
        if len(self.versions) == 1:
            return []
        old, new = self.by_key(-2), self.by_key()
        return sorted(key for key in set(old) & set(new) if old[key] != new[key])


def asked(name, index, more, key):
    """The arguments of an edit, by position and by name."""
    if name == "put":
        return (index, more), {"key": key}
    if name == "move":
        return (index, more), {}
    if name == "rekey":
        return (index, key), {}
    return (index,), {}


def some_edit(rng, model, odd):
    """An edit with arguments that mostly fit."""
    many = len(model.parts())
    name = rng.choice(["put"] * (5 if many < 12 else 2) + ["drop", "exchange", "move", "rekey"])
    index = rng.randint(0, max(0, many - 1 + (name == "put")))
    more = rng.randint(0, max(0, many - 1)) if name == "move" else rng.choice(sorted(model.plain["kinds"]))
    key = rng.choice([None, *KEYS])
    if rng.random() < odd:
        index = rng.choice([*NO_INTEGERS, -1, many, many + 1, 10 ** 29, index])
    if rng.random() < odd:
        more = rng.choice([*NO_INTEGERS, -1, many]) if name == "move" else rng.choice(["page", "", "K"])
    if rng.random() < odd:
        key = rng.choice(ODD_KEYS)
    return name, index, more, key


def plains():
    yield from (small_told(seed) for seed in range(30))
    yield from (small_told(seed, 3, 5) for seed in range(30))
    yield from all_told(24)
    kinds = {"k": ([("add", "a", 1), ("set", "b", 0)], read_label("K {a}")), "m": ([("add", "b", 1)],
             read_label("M {a}.{b:a}")), "n": ([], None)}
    for _ in range(10):
        yield {"starts": {"a": 0, "b": 0}, "kinds": kinds, "follows": None, "begins": ["k"]}


class Told(Case):
    def check_same(self, manuscript, model):
        """Check all that a manuscript tells against a model."""
        parts = model.parts()
        self.assertEqual(manuscript.parts(), parts)
        self.assertEqual([type(part) for part in manuscript.parts()], [tuple] * len(parts))
        self.assertEqual(manuscript.document(), [kind for kind, _ in parts])
        self.assertTrue(is_document(manuscript.scheme(), manuscript.document()))
        self.assertEqual(manuscript.labels(), model.labels())
        self.assertEqual(len(manuscript), len(parts))
        self.assertEqual(manuscript.changed(), model.changed())
        texts = model.by_key()
        for key in KEYS:
            if key in texts:
                self.assertEqual(manuscript.label_of(key), texts[key])
                self.assertEqual(parts[manuscript.place_of(key)][1], key)
                self.assertEqual(manuscript.told("{" + key + "}"), texts[key] or "")
            else:
                self.check_error(UnknownKey, [key], manuscript.label_of, key)
                self.check_error(UnknownKey, [key], manuscript.place_of, key)
                self.check_error(UnknownKey, [key], manuscript.told, "{" + key + "}")

    def edit(self, manuscript, model, name, index, more, key):
        """Make an edit in both, or check that its error is raised; tell the error, or None."""
        passed, named = asked(name, index, more, key)
        due = model.error(name, index, more, key)
        if due is not None:
            self.check_error(due[0], due[1], getattr(manuscript, name), *passed, **named)
            return due[0]
        self.assertIs(getattr(manuscript, name)(*passed, **named), None)
        model.versions.append(model.edited(name, index, more, key))
        return None


class Edits(Told):
    def test_long_rows_of_edits(self):
        rng = random.Random(37)
        errors = {}
        for number, plain in enumerate(plains()):
            manuscript, model = Manuscript(made(plain)), Model(plain)
            self.check_same(manuscript, model)
            for step in range(120):
                error = self.edit(manuscript, model, *some_edit(rng, model, 0.05))
                errors[error] = errors.get(error, 0) + 1
                if rng.random() < 0.1 and len(model.versions) > 1:
                    self.assertIs(manuscript.undo(), None)
                    model.versions.pop()
                if step % 5 == 0 or error is not None:
                    self.check_same(manuscript, model)
            while len(model.versions) > 1:
                manuscript.undo()
                model.versions.pop()
                if len(model.versions) % 5 == 0:
                    self.check_same(manuscript, model)
            self.assertEqual((manuscript.parts(), manuscript.changed()), ([], []))
            self.check_error(NothingToUndo, [], manuscript.undo)
        for error in (None, NotDocument, UnknownName, BadKey, KeyTaken, NotLet):
            self.assertGreater(errors.get(error, 0), 50, error)

    def test_indexes(self):
        manuscript = Manuscript(book())
        for many in range(4):
            for index in [*NO_INTEGERS, -1, -2, many, many + 1, 10 ** 29, -(10 ** 29)]:
                # Ahead of the kind and the key, which are wrong as well.
                if index != many or isinstance(index, bool):
                    self.check_error(NotDocument, [index], manuscript.put, index, "page", key="A")
                self.check_error(NotDocument, [index], manuscript.drop, index)
                self.check_error(NotDocument, [index], manuscript.exchange, index)
                self.check_error(NotDocument, [index], manuscript.rekey, index, "A")
                self.check_error(NotDocument, [index], manuscript.move, index, None)
                if many:
                    self.check_error(NotDocument, [index], manuscript.move, 0, index)
                    self.check_error(NotDocument, [many - 1], manuscript.exchange, many - 1)
            self.assertEqual((len(manuscript), manuscript.changed()), (many, []))
            manuscript.put(many, "chapter")

    def test_kinds_and_keys(self):
        manuscript = Manuscript(book())
        manuscript.put(0, "chapter", key="one")
        manuscript.put(1, "chapter", key="two")
        for name in [*NO_NAMES, "page", "one"]:
            self.check_error(UnknownName, [name], manuscript.put, 0, name, key="A")
        for key in ODD_KEYS:
            self.check_error(BadKey, [key], manuscript.put, 0, "figure", key=key)
            self.check_error(BadKey, [key], manuscript.rekey, 0, key)
        self.check_error(KeyTaken, ["two"], manuscript.put, 0, "figure", key="two")
        self.check_error(KeyTaken, ["two"], manuscript.rekey, 0, "two")
        self.check_error(NotLet, [None, "figure"], manuscript.put, 0, "figure", key="new")
        self.assertEqual(manuscript.parts(), [("chapter", "one"), ("chapter", "two")])
        manuscript.rekey(0, "one")
        manuscript.rekey(1, None)
        manuscript.rekey(0, "two")
        manuscript.put(0, "chapter", key="one")
        self.assertEqual(manuscript.parts(), [("chapter", "one"), ("chapter", "two"), ("chapter", None)])
        manuscript.drop(1)
        manuscript.rekey(key="two", index=1)
        self.assertEqual(manuscript.parts(), [("chapter", "one"), ("chapter", "two")])

    def test_the_first_two_kinds_that_may_not_stand(self):
        follows = {"k": ["l", "m"], "l": ["m"], "m": ["k", "m"]}
        plain = {"starts": {"a": 0}, "kinds": {kind: ([], None) for kind in "klm"}, "follows": follows, "begins": ["k"]}
        manuscript = Manuscript(made(plain))
        for index, kind in enumerate("klmkm"):
            manuscript.put(index, kind)
        self.check_error(NotLet, ["l", "k"], manuscript.drop, 2)
        self.check_error(NotLet, [None, "l"], manuscript.drop, 0)
        self.check_error(NotLet, [None, "l"], manuscript.exchange, 0)
        self.check_error(NotLet, ["m", "l"], manuscript.exchange, 1)
        self.check_error(NotLet, ["l", "k"], manuscript.move, 2, 4)
        self.check_error(NotLet, ["k", "k"], manuscript.move, 3, 0)
        self.check_error(NotLet, ["k", "k"], manuscript.put, 3, "k")
        self.check_error(NotLet, ["m", "l"], manuscript.put, 5, "l")
        manuscript.move(target=4, index=3)
        self.assertEqual(manuscript.document(), list("klmmk"))
        manuscript.drop(4)
        self.check_error(NotLet, [None, "m"], manuscript.move, 3, 0)

    def test_parameters_by_name(self):
        manuscript = Manuscript(scheme=book())
        manuscript.put(key="one", kind="chapter", index=0)
        manuscript.put(kind="figure", index=1)
        manuscript.rekey(key="map", index=1)
        manuscript.put(1, "chapter")
        manuscript.exchange(index=1)
        manuscript.drop(index=2)
        self.assertEqual(manuscript.parts(), [("chapter", "one"), ("figure", "map")])
        self.assertEqual((manuscript.label_of(key="map"), manuscript.place_of(key="map"), manuscript.told(text="{map}")),
                         ("Figure 1.1", 1, "Figure 1.1"))
        self.assertEqual(manuscript.tried(action=len), 2)


class Asking(Told):
    def manuscript(self):
        manuscript = Manuscript(made({"starts": {"a": 0, "b": 0}, "follows": None, "begins": None, "kinds": {
            "k": ([("add", "a", 1), ("set", "b", 0)], read_label("K {a}")), "n": ([], None),
            "m": ([("add", "b", 1)], read_label("{a}.{b:a}"))}}))
        for index, (kind, key) in enumerate([("k", "one"), ("m", "map"), ("n", "none"), ("m", None), ("k", "two")]):
            manuscript.put(index, kind, key=key)
        return manuscript

    def test_texts(self):
        manuscript = self.manuscript()
        for text, told in (("", ""), ("no key", "no key"), ("{one}", "K 1"), ("{none}", ""), ("{one}{two}", "K 1K 2"),
                           ("a {map}, b {none}.", "a 1.a, b ."), ("}", "}"), ("{", "{"), ("one}", "one}"),
                           ("{one", "{one"), ("{{one}}", "{K 1}"), ("{one {two}", "{one K 2"), ("}{one}{", "}K 1{"),
                           ("{{{", "{{{"), ("}}}", "}}}"), ("{one}}", "K 1}"), ("{one{map}{", "{one1.a{"),
                           ("{x\ny{one}\n}", "{x\nyK 1\n}"), ("{one}\n{two}", "K 1\nK 2"), ("{} {", None),
                           ("{one} {}", None), ("{One}", None), ("{ one}", None), ("{one }", None), ("{{}}", None),
                           ("{a {b} c}", None), ("{one}{three}{four}", None)):
            with self.subTest(text):
                if told is not None:
                    self.assertEqual(manuscript.told(text), told)
                else:
                    wrong = {"{} {": "", "{one} {}": "", "{{}}": "", "{a {b} c}": "b",
                             "{one}{three}{four}": "three"}.get(text, text[1:-1])
                    self.check_error(UnknownKey, [wrong], manuscript.told, text)
        self.assertEqual(manuscript.told("{one} " * 600), "K 1 " * 600)

    def test_unknown_keys(self):
        manuscript = self.manuscript()
        for key in [None, True, 0, 1, [], (), {}, "", "three", "One", "one ", b"one", ["one"]]:
            self.check_error(UnknownKey, [key], manuscript.label_of, key)
            self.check_error(UnknownKey, [key], manuscript.place_of, key)
        self.assertEqual([manuscript.place_of(key) for key in ("one", "map", "none", "two")], [0, 1, 2, 4])
        self.assertEqual([manuscript.label_of(key) for key in ("one", "map", "none", "two")], ["K 1", "1.a", None, "K 2"])

    def test_changed(self):
        manuscript = self.manuscript()
        self.assertEqual(manuscript.changed(), [])
        manuscript.put(0, "k", key="new")
        self.assertEqual(manuscript.changed(), ["map", "one", "two"])
        manuscript.rekey(1, "other")
        self.assertEqual(manuscript.changed(), [])
        manuscript.undo()
        self.assertEqual(manuscript.changed(), ["map", "one", "two"])
        self.check_error(NotDocument, [9], manuscript.drop, 9)
        self.assertEqual(manuscript.changed(), ["map", "one", "two"])
        manuscript.drop(0)
        self.assertEqual(manuscript.changed(), ["map", "one", "two"])
        manuscript.exchange(1)
        self.assertEqual(manuscript.changed(), [])
        manuscript.move(5 - 1, 0)
        self.assertEqual(manuscript.changed(), ["map", "one", "two"])
        # A key that another part had before the latest change counts only by the key.
        manuscript.rekey(0, None)
        manuscript.rekey(1, "two")
        self.assertEqual(manuscript.changed(), [])

    def test_returned_lists(self):
        manuscript = self.manuscript()
        for ask in (manuscript.parts, manuscript.document, manuscript.labels, manuscript.changed):
            wanted = list(ask())
            ask().append("more")
            ask().clear()
            self.assertEqual((ask(), type(ask())), (wanted, list))
        self.assertEqual(manuscript.scheme(), self.manuscript().scheme())

    def test_two_manuscripts(self):
        one, other = Manuscript(book()), Manuscript(book())
        one.put(0, "chapter", key="one")
        self.assertEqual((len(one), len(other)), (1, 0))
        other.put(0, "chapter", key="one")
        other.put(1, "figure", key="map")
        one.undo()
        self.assertEqual((one.parts(), other.told("{map}")), ([], "Figure 1.1"))
        with one.trial() as inside, other.trial():
            self.assertIs(inside, one)
            one.put(0, "chapter")
            other.drop(1)
        self.assertEqual((len(one), len(other)), (0, 2))


class Back(Told):
    def test_trials_against_a_model(self):
        rng = random.Random(39)
        for plain in plains():
            manuscript, model = Manuscript(made(plain)), Model(plain)
            for _ in range(12):
                self.some_edits(rng, manuscript, model, 3)
                self.check_trial(rng, manuscript, model, 0)
                self.check_same(manuscript, model)

    def some_edits(self, rng, manuscript, model, most):
        for _ in range(rng.randint(0, most)):
            if rng.random() < 0.3 and len(model.versions) > 1:
                manuscript.undo()
                model.versions.pop()
            else:
                self.edit(manuscript, model, *some_edit(rng, model, 0.02))

    def check_trial(self, rng, manuscript, model, depth):
        kept = [list(version) for version in model.versions]
        error = rng.choice([None, KeyError, BadNumber])
        with self.assertRaises(KeyError):
            with manuscript.trial() as inside:
                self.assertIs(inside, manuscript)
                self.some_edits(rng, manuscript, model, 6)
                if depth < 2:
                    self.check_trial(rng, manuscript, model, depth + 1)
                self.check_same(manuscript, model)
                if error is BadNumber:
                    try:
                        raise BadNumber(depth)
                    except PartError:
                        pass
                if error is KeyError:
                    raise KeyError(depth)
            raise KeyError(depth)
        model.versions = kept
        self.check_same(manuscript, model)

    def test_tried(self):
        manuscript = Manuscript(book())
        manuscript.put(0, "chapter", key="one")
        manuscript.put(1, "figure", key="map")

        def undo_all(one):
            while len(one):
                one.undo()
            self.assertEqual(one.changed(), [])
            one.put(0, "chapter", key="map")
            return one.told("{map}")

        def fail(one):
            undo_all(one)
            one.put(0, "figure")

        def fail_otherwise(one):
            one.drop(1)
            return one.parts()[1]

        before = (manuscript.parts(), manuscript.changed(), manuscript.labels())
        for _ in range(3):
            self.assertEqual(manuscript.tried(undo_all), "Chapter 1")
            self.assertEqual((manuscript.parts(), manuscript.changed(), manuscript.labels()), before)
            self.check_error(NotLet, [None, "figure"], manuscript.tried, fail)
            with self.assertRaises(IndexError):
                manuscript.tried(fail_otherwise)
            self.assertEqual((manuscript.parts(), manuscript.changed(), manuscript.labels()), before)
            self.assertIs(manuscript.tried(lambda one: one), manuscript)
            self.assertIs(manuscript.tried(lambda one: one.undo()), None)
            self.assertEqual(manuscript.tried(lambda one: one.tried(lambda two: two.drop(1)) or len(two_of(one))), 2)
        manuscript.undo()
        self.assertEqual(manuscript.parts(), [("chapter", "one")])
        manuscript.undo()
        self.check_error(NothingToUndo, [], manuscript.undo)
        self.check_error(NothingToUndo, [], manuscript.tried, lambda one: one.undo())

    def test_a_trial_begins_with_its_block(self):
        manuscript = Manuscript(book())
        trial = manuscript.trial()
        manuscript.put(0, "chapter")
        with trial as inside:
            inside.put(1, "figure")
            with inside.trial():
                inside.undo()
                inside.undo()
                self.check_error(NothingToUndo, [], inside.undo)
            self.assertEqual(inside.document(), ["chapter", "figure"])
        self.assertEqual(manuscript.document(), ["chapter"])
        with self.assertRaises(NotLet):
            with manuscript.trial():
                manuscript.put(0, "chapter")
                manuscript.put(0, "figure")
        self.assertEqual((manuscript.document(), manuscript.changed()), (["chapter"], []))
        with manuscript.trial():
            manuscript.undo()
            return_early = manuscript.document()
        self.assertEqual((return_early, manuscript.document()), ([], ["chapter"]))

    def test_what_changed_behind_undo_and_trials(self):
        manuscript = Manuscript(book())
        manuscript.put(0, "chapter", key="one")
        manuscript.put(0, "chapter")
        self.assertEqual(manuscript.changed(), ["one"])
        with manuscript.trial():
            manuscript.put(2, "figure")
            self.assertEqual(manuscript.changed(), [])
            manuscript.undo()
            self.assertEqual(manuscript.changed(), ["one"])
            manuscript.undo()
            self.assertEqual(manuscript.changed(), [])
        self.assertEqual(manuscript.changed(), ["one"])

    def test_many_changes(self):
        manuscript = Manuscript(book())
        manuscript.put(0, "chapter", key="one")
        for _ in range(5000):
            manuscript.rekey(0, "two")
            manuscript.rekey(0, "one")
        with manuscript.trial():
            for _ in range(10001):
                manuscript.undo()
            self.check_error(NothingToUndo, [], manuscript.undo)
        self.assertEqual(manuscript.parts(), [("chapter", "one")])


def two_of(manuscript):
    return manuscript.parts()


if __name__ == "__main__":
    unittest.main()
