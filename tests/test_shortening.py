"""Points 35 and 36: needless deeds, and lean schemes."""

import random
import unittest

from partlabels.alike import alike
from partlabels.documents import labels
from partlabels.labels import read_label
from partlabels.schemes import Scheme
from partlabels.shortening import lean, needless_deeds
from samples import (Case, all_told, book, great_told, labels_in, long_walks, made, small_told, some_documents)


def samples():
    yield from (small_told(seed) for seed in range(150))
    yield from (small_told(seed, 4, 5, 6, 3) for seed in range(25))
    yield from all_told(24)


def without(plain, kind, index):
    deeds, label = plain["kinds"][kind]
    return {**plain, "kinds": {**plain["kinds"], kind: (deeds[:index] + deeds[index + 1:], label)}}


def is_thinned(row, other):
    """Whether a list has some of the items of another one, in their order."""
    place = 0
    for item in other:
        if place < len(row) and row[place] == item:
            place += 1
    return place == len(row)


class Needless(Case):
    def test_against_all_documents(self):
        some = none = 0
        for plain in samples():
            scheme, told = made(plain), needless_deeds(made(plain))
            documents = [*some_documents(plain, 120), *long_walks(plain, 2, 30)]
            before = [labels_in(plain, document) for document in documents]
            self.assertIs(type(told), list)
            self.assertEqual(told, sorted(set(told)))
            for kind in plain["kinds"]:
                for index in range(len(plain["kinds"][kind][0])):
                    other = without(plain, kind, index)
                    with self.subTest(plain=plain, kind=kind, index=index):
                        self.assertIs((kind, index) in told, alike(scheme, made(other)))
                        if (kind, index) in told:
                            some += 1
                            self.assertEqual([labels_in(other, document) for document in documents], before)
                        else:
                            none += 1
            for item in told:
                self.assertEqual((type(item), len(item)), (tuple, 2))
                self.assertIn(item[1], range(len(plain["kinds"][item[0]][0])))
        self.assertGreater(min(some, none), 150)

    def test_what_is_needless(self):
        label = read_label("{a}")
        for deeds, told in (([("add", "a", 1), ("set", "a", 3)], [0]), ([("set", "a", 3), ("set", "a", 3)], [0, 1]),
                            ([("set", "a", 3), ("add", "b", 5)], [1]), ([("set", "a", 0), ("add", "a", 3)], []),
                            ([("add", "a", 1), ("add", "a", 1)], []), ([("set", "a", 7)], [0]), ([], []),
                            ([("set", "b", 1), ("set", "b", 1), ("add", "b", 1)], [0, 1, 2]),
                            ([("set", "a", 4), ("add", "a", 1), ("set", "a", 4)], [0, 1])):
            scheme = Scheme({"a": 7, "b": 0}, {"k": (deeds, label)})
            self.assertEqual(needless_deeds(scheme), [("k", index) for index in told], deeds)
            apart = Scheme({"a": 7, "b": 0}, {"k": ([], label), "m": (deeds, None)}, begins=["k"], follows={"k": ["k"]})
            # Parts of m never come.
            self.assertEqual(needless_deeds(apart), [("m", index) for index in range(len(deeds))])
        self.assertEqual(needless_deeds(scheme=book()), [])

    def test_each_one_by_itself(self):
        # Either one of two deeds that do the same can be left out, but not both.
        scheme = book().with_deeds("chapter", [("add", "chapter", 1), ("set", "figure", 0), ("set", "figure", 0)])
        self.assertEqual(needless_deeds(scheme), [("chapter", 1), ("chapter", 2)])
        self.assertEqual(lean(scheme), book())


class Lean(Case):
    def check_lean(self, scheme):
        found = lean(scheme)
        self.assertIs(type(found), Scheme)
        self.assertIs(alike(scheme, found), True)
        self.assertEqual(needless_deeds(found), [])
        rest = scheme
        for kind in scheme.kinds():
            self.assertTrue(is_thinned(found.deeds(kind), scheme.deeds(kind)))
            rest = rest.with_deeds(kind, found.deeds(kind))
        self.assertEqual(found, rest)
        return found

    def test_lean_schemes(self):
        for plain in samples():
            with self.subTest(plain=plain):
                found = self.check_lean(made(plain))
                self.assertEqual(lean(found), found)
                for document in long_walks(plain, 2, 40):
                    self.assertEqual(labels(found, document), labels_in(plain, document))

    def test_one_deed_that_only_another_one_makes_needed(self):
        # The set is needed as long as the add ahead of it stands.
        for deeds in ([("add", "a", 1), ("set", "a", 5)], [("set", "a", 5), ("add", "b", 3)]):
            scheme = Scheme({"a": 5, "b": 0}, {"k": ([], read_label("{a}")), "m": (deeds, None)})
            self.assertEqual(self.check_lean(scheme).deeds("m"), [])
        chain = {kind: ([("add", "a", 1), ("set", "a", 5)], None) for kind in "lmn"}
        scheme = Scheme({"a": 5}, {**chain, "k": ([], read_label("{a}"))})
        self.assertEqual(needless_deeds(scheme), [("l", 0), ("m", 0), ("n", 0)])
        self.assertEqual([self.check_lean(scheme).deeds(kind) for kind in "klmn"], [[], [], [], []])

    def test_without_labels(self):
        scheme = book().with_label("figure", None).with_label("chapter", None)
        self.assertEqual(len(needless_deeds(scheme)), 3)
        found = self.check_lean(scheme)
        self.assertEqual((found.deeds("chapter"), found.deeds("figure")), ([], []))
        self.assertEqual(lean(scheme=book()), book())

    def test_limits(self):
        rng = random.Random(36)
        for seed in range(4):
            plain = great_told(seed)
            for kind in rng.sample(sorted(plain["kinds"]), 3):
                plain["kinds"][kind] = (plain["kinds"][kind][0], None)
            self.check_lean(made(plain))


if __name__ == "__main__":
    unittest.main()
