"""Points 26 and 27: labels that come twice, and papers that show that none does."""

import random
import unittest

from partlabels.documents import is_document, labels
from partlabels.errors import NoDocument, NoLabel, UnknownName
from partlabels.labels import read_label
from partlabels.schemes import Scheme
from partlabels.twice import check_once, once_paper, twice
from samples import (Case, NO_NAMES, all_told, book, follows_of, great_told, labelled, labels_in, long_walks, made,
                     shown_by, small_told, some_documents)

MARKS = ("kept", "added", "set")


def samples():
    yield from (small_told(seed) for seed in range(200))
    yield from (small_told(seed, 4, 6, 4) for seed in range(80))
    yield from all_told(48)


def case_behind(plain, row, shown):
    """The case behind a row of parts, told from the deeds of all of them."""
    deeds = [deed for kind in row for deed in plain["kinds"][kind][0]]
    marks = []
    for counter in shown:
        words = {word for word, name, _ in deeds if name == counter}
        marks.append("set" if "set" in words else "added" if words else "kept")
    return (row[-1], tuple(marks))


def case_with(plain, case, kind, shown):
    """The case with one part of a kind more."""
    more = case_behind(plain, [kind], shown)[1]
    return (kind, tuple(MARKS[max(MARKS.index(one), MARKS.index(other))] for one, other in zip(case[1], more)))


def reference_check(plain, kind, paper):
    """What point 27 asks of a paper, in its own words, for a plain scheme."""
    shown, kinds = shown_by(plain, kind), plain["kinds"]
    if not all(last in kinds and len(marks) == len(shown) and set(marks) <= set(MARKS) for last, marks in paper):
        return False
    let = set(follows_of(plain, kind))
    if not all(case_behind(plain, [other], shown) in paper for other in let):
        return False
    for case in paper:
        if not all(case_with(plain, case, other, shown) in paper for other in follows_of(plain, case[0])):
            return False
    return all("added" in marks for last, marks in paper if last == kind)


class Twice(Case):
    def test_against_all_documents(self):
        never = often = 0
        for plain in samples():
            scheme = made(plain)
            found_in_all = self.kinds_with_same_labels(plain)
            for kind in labelled(plain):
                found = twice(scheme, kind)
                with self.subTest(plain=plain, kind=kind):
                    if found is None:
                        never += 1
                        self.assertNotIn(kind, found_in_all)
                        for document in long_walks(plain, 3):
                            texts = [text for one, text in zip(document, labels(scheme, document)) if one == kind]
                            self.assertEqual(len(texts), len(set(texts)))
                        continue
                    often += 1
                    self.check_told(plain, kind, found)
        self.assertGreater(min(never, often), 60)

    def kinds_with_same_labels(self, plain):
        """The kinds that have a label twice in some short document."""
        kinds = set()
        for document in some_documents(plain, 400):
            seen = set()
            for kind, text in zip(document, labels_in(plain, document)):
                if text is not None and (kind, text) in seen:
                    kinds.add(kind)
                seen.add((kind, text))
        return kinds

    def check_told(self, plain, kind, found):
        self.assertIs(type(found), tuple)
        document, first, second = found
        self.assertEqual((type(document), type(first), type(second)), (list, int, int))
        self.assertTrue(is_document(made(plain), document))
        self.assertTrue(0 <= first < second < len(document))
        self.assertEqual((document[first], document[second]), (kind, kind))
        texts = labels_in(plain, document)
        self.assertIsNotNone(texts[first])
        self.assertEqual(texts[first], texts[second])

    def test_only_through_several_kinds(self):
        follows = {"k": ["l"], "l": ["m", "k"], "m": ["n", "k"], "n": ["k"]}
        plain = {"starts": {"a": 0, "b": 0}, "begins": ["k"], "follows": follows,
                 "kinds": {"k": ([("add", "a", 1)], read_label("{a}.{b}")), "l": ([("add", "b", 1)], None),
                           "m": ([("set", "b", 7)], None), "n": ([("set", "a", 3)], None)}}
        document, first, second = twice(made(plain), "k")
        self.check_told(plain, "k", (document, first, second))
        self.assertEqual(document[first:second], list("klmn"))
        plain["follows"] = {**follows, "m": ["k"]}
        self.assertIs(twice(made(plain), "k"), None)
        plain["kinds"]["n"] = ([("add", "a", 3)], None)
        plain["follows"] = follows
        self.assertIs(twice(made(plain), "k"), None)

    def test_at_once_or_never(self):
        scheme = Scheme({"a": 0}, {"k": ([], read_label("{a}"))})
        self.assertEqual(len({*labels(scheme, twice(scheme, "k")[0])}), 1)
        self.assertIsNotNone(twice(scheme.with_deeds("k", [("add", "a", 1), ("set", "a", 3)]), "k"))
        self.assertIsNone(twice(scheme.with_deeds("k", [("add", "a", 1)]), "k"))
        single = Scheme({"a": 0}, {"k": ([], read_label("{a}"))}, follows={})
        self.assertEqual((twice(single, "k"), once_paper(single, "k"), check_once(single, "k", [])), (None, [], True))
        self.assertIsNone(twice(kind="figure", scheme=book()))

    def test_errors(self):
        follows = {"k": ["k"], "m": ["k"], "n": ["n"]}
        scheme = Scheme({"a": 0}, {"k": ([], None), "m": ([], read_label("{a}")), "n": ([], None)}, begins=["k"],
                        follows=follows)
        for function, more in ((twice, ()), (once_paper, ()), (check_once, ([],)), (check_once, ([("q", ())],))):
            for name in [*NO_NAMES, "a", "page"]:
                self.check_error(UnknownName, [name], function, scheme, name, *more)
            self.check_error(NoDocument, ["m"], function, scheme, "m", *more)
            self.check_error(NoDocument, ["n"], function, scheme, "n", *more)
            self.check_error(NoLabel, ["k"], function, scheme, "k", *more)


def some_papers(plain, kind, paper, rng):
    """Papers that come from one by small changes."""
    many, kinds = len(shown_by(plain, kind)), sorted(plain["kinds"])
    yield []
    yield tuple(paper)
    yield [*paper, *paper]
    yield paper[::-1]
    for last in [*kinds, "page", ""]:
        yield [*paper, (last, tuple(rng.choice(MARKS) for _ in range(many)))]
        yield [*paper, (last, ("added",) * many)]
        yield [*paper, (last, ("set",) * many)]
        yield [*paper, (last, ("kept",) * many)]
    for place, (last, marks) in enumerate(paper):
        others = [*paper[:place], *paper[place + 1:]]
        yield others
        yield [*others, (rng.choice(kinds), marks)]
        yield [*others, (last, tuple(rng.choice(MARKS) for _ in range(many)))]
        for wrong in (marks[1:], (*marks, "kept"), (*marks[:-1], "adds"), (*marks[:-1], ""), (), ("Set", *marks[1:])):
            yield [*others, (last, wrong)]
            yield [*paper, (last, wrong)]


class Papers(Case):
    def test_returned_papers(self):
        many = 0
        for plain in samples():
            scheme = made(plain)
            for kind in labelled(plain):
                paper = once_paper(scheme, kind)
                with self.subTest(plain=plain, kind=kind):
                    self.assertIs(paper is None, twice(scheme, kind) is not None)
                    if paper is not None:
                        many += 1
                        self.assertIs(type(paper), list)
                        self.assertIs(check_once(scheme, kind, paper), True)
                        self.assertIs(reference_check(plain, kind, paper), True)
        self.assertGreater(many, 60)

    def test_changed_papers(self):
        rng = random.Random(27)
        let = refused = 0
        for plain in samples():
            scheme = made(plain)
            for kind in labelled(plain):
                paper = once_paper(scheme, kind)
                if paper is None:
                    # All cases that come about, by some walks: a closed list that has a case without a mark `added`.
                    shown = shown_by(plain, kind)
                    rows = [document[document.index(kind) + 1:] for document in long_walks(plain) if kind in document]
                    paper = sorted({case_behind(plain, row[:end + 1], shown) for row in rows for end in range(len(row))})
                for changed in some_papers(plain, kind, paper, rng):
                    before = list(changed)
                    found = check_once(scheme, kind, changed)
                    self.assertIs(found, reference_check(plain, kind, changed), (plain, kind, changed))
                    self.assertEqual(list(changed), before)
                    let, refused = let + found, refused + (not found)
        self.assertGreater(min(let, refused), 300)

    def test_new_each_time(self):
        wanted = list(once_paper(book(), "figure"))
        once_paper(book(), "figure").clear()
        self.assertEqual(once_paper(kind="figure", scheme=book()), wanted)
        self.assertIs(check_once(paper=wanted, kind="figure", scheme=book()), True)

    def test_a_case_of_another_kind_may_lack_growth(self):
        paper = [("chapter", ("added",)), ("figure", ("kept",)), ("figure", ("added",))]
        self.assertIs(check_once(book(), "chapter", paper), True)
        for place in range(3):
            self.assertIs(check_once(book(), "chapter", paper[:place] + paper[place + 1:]), False)
        self.assertIs(check_once(book(), "chapter", [*paper, ("chapter", ("kept",))]), False)
        self.assertIs(check_once(book(), "chapter", [*paper, ("figure", ("set",))]), False)
        closed = [*paper, ("figure", ("set",)), ("chapter", ("set",))]
        self.assertIs(check_once(book(), "chapter", closed), False)

    def test_limits(self):
        for seed in range(12):
            plain = great_told(seed)
            for kind in labelled(plain):
                paper = once_paper(made(plain), kind)
                if paper is not None:
                    self.assertIs(check_once(made(plain), kind, paper), True)
                else:
                    document, first, second = twice(made(plain), kind)
                    texts = labels(made(plain), document)
                    self.assertEqual((texts[first], document[first]), (texts[second], kind))


if __name__ == "__main__":
    unittest.main()
