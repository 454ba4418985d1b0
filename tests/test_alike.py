"""Points 24 and 25: schemes that label alike, and papers for them."""

import copy
import random
import unittest

from partlabels.alike import alike, alike_paper, check_alike, parting
from partlabels.documents import is_document, labels
from partlabels.errors import UnlikeSchemes
from partlabels.labels import Label, read_label
from partlabels.schemes import Scheme
from samples import (Case, NO_INTEGERS, all_told, begins_of, book, follows_of, great_told, labels_in, long_walks, made,
                     rank, reached_in, small_told, some_documents, values_behind)


def renamed(plain, rng):
    """The same with other counters: other names, so another order, and perhaps one more of them."""
    names = dict(zip(plain["starts"], rng.sample(["a", "b", "c", "d", "e", "x", "y"], 5)))
    starts = {names[counter]: start for counter, start in plain["starts"].items()}
    parts = {}
    for kind, (deeds, label) in plain["kinds"].items():
        # Deeds on different counters may stand in any order.
        deeds = sorted([(word, names[counter], number) for word, counter, number in deeds], key=lambda deed: deed[1])
        if label is not None:
            label = Label(label.head, [(names[counter], form) for counter, form in label.shown], label.joints)
        parts[kind] = (deeds, label)
    if len(starts) < 4:
        starts["more"] = rng.randint(0, 9)
        for kind in rng.sample(sorted(parts), rng.randint(1, len(parts))):
            if len(parts[kind][0]) < 6:
                parts[kind] = ([*parts[kind][0], ("add", "more", 1)], parts[kind][1])
    return {**plain, "starts": starts, "kinds": parts}


def altered(plain, rng):
    """The same with one deed, one start or one label other than before."""
    plain = copy.copy(plain)
    plain["starts"], plain["kinds"] = dict(plain["starts"]), dict(plain["kinds"])
    kind, counter = rng.choice(sorted(plain["kinds"])), rng.choice(sorted(plain["starts"]))
    deeds, label = list(plain["kinds"][kind][0]), plain["kinds"][kind][1]
    what = rng.randrange(5)
    if what == 0:
        plain["starts"][counter] = rng.randint(0, 3)
    elif what == 1 and deeds:
        deeds.pop(rng.randrange(len(deeds)))
    elif what == 2 and len(deeds) < 6:
        deeds.insert(rng.randint(0, len(deeds)), (rng.choice(["add", "set"]), counter, rng.randint(1, 3)))
    elif what == 3:
        rng.shuffle(deeds)
    elif rng.random() < 0.3:
        label = rng.choice([None, Label("New ", [(counter, "figures")]), Label("", [(counter, "letters")])])
    plain["kinds"][kind] = (deeds, label)
    return plain


def pairs():
    """Pairs of plain schemes with the same documents, alike or not."""
    rng = random.Random(24)
    plains = [*[small_told(seed) for seed in range(150)], *[small_told(seed, 4, 5, 5) for seed in range(60)]]
    for plain in [*plains, *all_told(24)]:
        yield plain, renamed(plain, rng)
        other = altered(plain, rng)
        yield plain, other
        yield renamed(plain, rng), altered(other, rng)


def holds(rows, row):
    return rank([*rows, row]) == rank(rows)


def reference_check(one, other, paper):
    """What point 25 asks of a paper, in its own words, for plain schemes."""
    sides, reached = (one, other), reached_in(one)
    counters = [(side, counter) for side in (0, 1) for counter in sorted(sides[side]["starts"])]
    if set(paper) != reached:
        return False
    for rows in paper.values():
        if not isinstance(rows, (list, tuple)):
            return False
        for row in rows:
            if not isinstance(row, tuple) or [type(number) for number in row] != [int] * (len(counters) + 1):
                return False

    def row_sum(row, nows):
        return sum(row[at] * nows[side][counter] for at, (side, counter) in enumerate(counters)) + row[-1]

    def behind(nows, kind):
        return [values_behind(side, [kind], now) for side, now in zip(sides, nows)]

    def before(row, kind):
        # A row is known by its sums where all counters are 0, and where just one is 1.
        zeros = [{counter: 0 for counter in side["starts"]} for side in sides]
        constant = row_sum(row, behind(zeros, kind))
        weights = []
        for side, counter in counters:
            nows = copy.deepcopy(zeros)
            nows[side][counter] = 1
            weights.append(row_sum(row, behind(nows, kind)) - constant)
        return (*weights, constant)

    for kind in begins_of(one):
        nows = behind([side["starts"] for side in sides], kind)
        if any(row_sum(row, nows) != 0 for row in paper[kind]):
            return False
    for kind in reached:
        for later in follows_of(one, kind):
            if not all(holds(paper[kind], before(row, later)) for row in paper[later]):
                return False
        first, second = one["kinds"][kind][1], other["kinds"][kind][1]
        if (first is None) != (second is None):
            return False
        if first is not None:
            if (first.head, first.joints) != (second.head, second.joints):
                return False
            if [form for _, form in first.shown] != [form for _, form in second.shown]:
                return False
            for (left, _), (right, _) in zip(first.shown, second.shown):
                row = [1 if at == (0, left) else -1 if at == (1, right) else 0 for at in counters]
                if not holds(paper[kind], (*row, 0)):
                    return False
    return True


class Partings(Case):
    def test_against_all_documents(self):
        early = late = never = 0
        for one, other in pairs():
            first, second = made(one), made(other)
            document = parting(first, second)
            unlike = [some for some in some_documents(one, 300) if labels_in(one, some) != labels_in(other, some)]
            with self.subTest(one=one, other=other):
                self.assertIs(alike(first, second), document is None)
                self.assertEqual(None if parting(second, first) is None else len(parting(second, first)),
                                 None if document is None else len(document))
                if document is None:
                    never += 1
                    self.assertEqual(unlike, [])
                    for some in long_walks(one):
                        self.assertEqual(labels(first, some), labels(second, some))
                    continue
                self.assertTrue(is_document(first, document))
                one_labels, other_labels = labels(first, document), labels(second, document)
                self.assertEqual(one_labels[:-1], other_labels[:-1])
                self.assertNotEqual(one_labels[-1], other_labels[-1])
                if unlike:
                    self.assertEqual(len(document), len(unlike[0]))
                early, late = early + (len(document) == 1), late + (len(document) > 1)
        self.assertGreater(min(early, late, never), 50)

    def test_late_partings(self):
        follows = {kind: [other] for kind, other in zip("klmnop", "lmnopk")}
        kinds = {kind: ([], None) for kind in "klmnop"}
        kinds["k"] = ([], read_label("K {a}"))
        kinds["o"] = ([("add", "a", 1), ("add", "b", 1)], None)
        one = Scheme({"a": 1, "b": 1, "c": 5}, kinds, follows=follows, begins=["k"])
        other = one.with_label("k", read_label("K {b}"))
        self.assertIs(alike(one, other), True)
        for deeds, turns in ((([("add", "a", 1), ("set", "b", 2)]), 2), ([("set", "a", 2), ("set", "b", 2)], 0),
                             ([("add", "a", 1), ("add", "b", 2)], 1), ([("add", "a", 1), ("set", "b", 3)], 1)):
            document = None if turns == 0 else list("klmnop") * turns + ["k"]
            self.assertEqual(parting(one.with_deeds("o", deeds), other.with_deeds("o", deeds)), document)

    def test_kinds_that_are_not_reached(self):
        one = Scheme({"a": 0}, {"k": ([], read_label("{a}")), "m": ([], None)}, begins=["k"], follows={"m": ["m", "k"]})
        other = one.with_label("m", read_label("M {a}"))
        self.assertEqual((alike(one, other), alike(other, one)), (True, True))
        self.assertEqual(sorted(alike_paper(one, other)), ["k"])
        self.assertIs(check_alike(one, other, {"k": [(1, -1, 0)]}), True)
        self.assertIs(check_alike(one, other, {"k": [(1, -1, 0)], "m": []}), False)

    def test_labels_in_both_or_in_one(self):
        follows = {"k": ["m"], "m": ["k"]}
        one = Scheme({"a": 0, "b": 0}, {"k": ([], None), "m": ([], read_label("M {a}.{b:a}"))}, begins=["k"],
                     follows=follows)
        for label in (None, "N {a}.{b:a}", "M {a}:{b:a}", "M {a}.{b}", "M {a:a}.{b:a}", "M {a}", "{a}.{b:a}",
                      "M {a:a}.{b}"):
            other = one.with_label("m", None if label is None else read_label(label))
            self.assertEqual(parting(one, other), ["k", "m"])
            self.assertEqual((alike_paper(one, other), alike_paper(other, one)), (None, None))
            self.assertIs(check_alike(one, other, {"k": [], "m": [(1, 0, -1, 0, 0), (0, 1, 0, -1, 0)]}), False)
        self.assertIs(alike(one, one.with_label("m", read_label("M {b}.{a:a}"))), True)
        self.assertIs(alike(one.with_label("m", None), one.with_label("m", None).with_start("a", 3)), True)
        self.assertEqual(parting(one, one.with_label("k", read_label("{a}"))), ["k"])

    def test_unlike_schemes(self):
        one = book()
        plain = {"starts": {"chapter": 0, "figure": 0}, "begins": ["chapter"],
                 "kinds": {kind: (one.deeds(kind), one.label(kind)) for kind in one.kinds()}, "follows": None}
        self.assertIs(alike(one, made(plain)), True)
        for change in ({"begins": None}, {"begins": []}, {"begins": ["figure"]}, {"follows": {}},
                       {"follows": {"chapter": ["figure"], "figure": ["figure", "chapter"]}},
                       {"kinds": {**plain["kinds"], "more": ([], None)}},
                       {"kinds": {"chapter": plain["kinds"]["chapter"]}},
                       {"kinds": {"chapter": plain["kinds"]["chapter"], "figures": plain["kinds"]["figure"]}}):
            other = made({**plain, **change})
            self.check_unlike(one, other)
        # One of them has a kind more, which comes in no document.
        few = Scheme({"a": 0}, {"k": ([], None)}, begins=["k"], follows={"k": ["k"]})
        more = Scheme({"a": 0}, {"k": ([], None), "m": ([], None)}, begins=["k"], follows={"k": ["k"]})
        self.check_unlike(few, more)

    def check_unlike(self, one, other):
        for left, right in ((one, other), (other, one)):
            self.check_error(UnlikeSchemes, [], parting, left, right)
            self.check_error(UnlikeSchemes, [], alike, left, right)
            self.check_error(UnlikeSchemes, [], alike_paper, left, right)
            self.check_error(UnlikeSchemes, [], check_alike, left, right, {})

    def test_names_of_the_parameters(self):
        one, other = book(), book().with_start("chapter", 3)
        self.assertEqual((alike(other=other, one=one), parting(other=other, one=one)), (False, ["chapter"]))
        self.assertEqual((alike(other=one, one=one), parting(other=one, one=one)), (True, None))


def some_papers(paper, rng):
    """Papers that come from one by small changes."""
    yield {}
    for kind in sorted(paper):
        rows, width = paper[kind], len(paper[kind][0]) if paper[kind] else 3
        zeros = (0,) * width
        yield {other: paper[other] for other in paper if other != kind}
        yield {**paper, kind: tuple(rows)}
        yield {**paper, kind: []}
        yield {**paper, kind: [*rows, zeros]}
        yield {**paper, kind: [*rows, (1, *zeros[1:])]}
        yield {**paper, kind: [*rows, (*zeros[1:], 1)]}
        yield {**paper, kind: [*rows, zeros[1:]]}
        yield {**paper, kind: [*rows, (*zeros, 0)]}
        yield {**paper, kind: [*rows, list(zeros)]}
        yield {**paper, kind: [*rows, None]}
        for number in (True, None, "0", 0.0):
            yield {**paper, kind: [*rows, (number, *zeros[1:])]}
        for value in (None, True, 0, "", "rows", {}, {zeros: zeros}, zeros, {zeros}):
            yield {**paper, kind: value}
        for place, row in enumerate(rows):
            yield {**paper, kind: rows[:place] + rows[place + 1:]}
            yield {**paper, kind: [*rows, row]}
            yield {**paper, kind: [*rows[:place], tuple(-3 * number for number in row), *rows[place + 1:]]}
            changed = list(row)
            changed[rng.randrange(width)] += rng.choice([-1, 1, 10 ** 29])
            yield {**paper, kind: [*rows[:place], tuple(changed), *rows[place + 1:]]}
            other = rng.choice(rows)
            # Sums with fractions: the rows that are left hold each of these only together.
            yield {**paper, kind: [*rows, tuple(7 * one + 10 ** 29 * two for one, two in zip(row, other))]}
            if row != other:
                yield {**paper, kind: [*[one for one in rows if one not in (row, other)],
                                       tuple(2 * one + two for one, two in zip(row, other)),
                                       tuple(one - 3 * two for one, two in zip(row, other))]}
    yield {**paper, "zz": []}
    yield {**paper, "": [()]}


class Papers(Case):
    def test_returned_papers(self):
        many = 0
        for one, other in pairs():
            first, second = made(one), made(other)
            paper = alike_paper(first, second)
            with self.subTest(one=one, other=other):
                self.assertIs(paper is None, not alike(first, second))
                if paper is None:
                    continue
                many += 1
                self.assertEqual(set(paper), reached_in(one))
                self.assertIs(check_alike(first, second, paper), True)
                self.assertIs(reference_check(one, other, paper), True)
        self.assertGreater(many, 150)

    def test_changed_papers(self):
        rng = random.Random(25)
        let = refused = 0
        for number, (one, other) in enumerate(pairs()):
            first, second = made(one), made(other)
            paper = alike_paper(first, second)
            if number % 11 or paper is None:
                continue
            for changed in some_papers(paper, rng):
                before = copy.deepcopy(changed)
                with self.subTest(one=one, other=other, changed=changed):
                    found = check_alike(first, second, changed)
                    self.assertIs(found, reference_check(one, other, changed))
                    self.assertEqual(changed, before)
                    let, refused = let + found, refused + (not found)
        self.assertGreater(min(let, refused), 150)

    def test_papers_of_schemes_that_are_not_alike(self):
        rng = random.Random(26)
        for number, (one, other) in enumerate(pairs()):
            first, second = made(one), made(other)
            if number % 9 == 0 and not alike(first, second):
                width = len(one["starts"]) + len(other["starts"]) + 1
                for _ in range(5):
                    paper = {kind: [tuple(rng.randint(-1, 1) for _ in range(width))] for kind in reached_in(one)}
                    self.assertIs(check_alike(first, second, paper), False)
                    self.assertIs(reference_check(one, other, paper), False)

    def test_sums_with_fractions(self):
        one = Scheme({"a": 0, "b": 0}, {"k": ([("add", "a", 1), ("add", "b", 1)], read_label("{a}.{b}"))})
        rows = [(1, 1, -1, -1, 0), (1, -1, -1, 1, 0)]
        self.assertIs(check_alike(one, one, {"k": rows}), True)
        self.assertIs(check_alike(one, one, {"k": [(3, 3, -3, -3, 0), (-5, 5, 5, -5, 0)]}), True)
        self.assertIs(check_alike(one, one, {"k": rows[:1]}), False)
        self.assertIs(check_alike(one, one, {"k": [*rows, (1, -1, 0, 0, 0)]}), True)
        self.assertIs(check_alike(one, one, {"k": [*rows, (2, 0, -2, 0, 1)]}), False)
        self.assertIs(check_alike(paper={"k": tuple(rows)}, other=one, one=one), True)
        self.assertIs(check_alike(one, one, {"k": [*rows, (10 ** 30, 0, -(10 ** 30), 0, 0)]}), True)
        for number in NO_INTEGERS:
            self.assertIs(check_alike(one, one, {"k": [*rows, (number, 0, 0, 0, 0)]}), False)

    def test_papers_for_labels_of_other_forms(self):
        one = Scheme({"a": 0, "b": 0}, {"k": ([("add", "a", 1)], read_label("K {a}.{b}")), "m": ([], None)})
        rows = [(1, 0, -1, 0, 0), (0, 1, 0, -1, 0)]
        paper = {"k": rows, "m": rows}
        self.assertIs(check_alike(one, one, paper), True)
        for label in (None, "K {a}:{b}", "{a}.{b}", "L {a}.{b}", "K {a:a}.{b}", "K {a}.{b:a}", "K {b}.{a}", "K {a}"):
            other = one.with_label("k", None if label is None else read_label(label))
            self.assertIs(check_alike(one, other, paper), False, label)
            self.assertIs(check_alike(other, one, paper), False, label)
            self.assertIs(check_alike(other, other, paper), True, label)
        other = one.with_label("m", read_label("{a}"))
        self.assertEqual((check_alike(one, other, paper), check_alike(other, one, paper)), (False, False))

    def test_a_changed_paper_has_no_effect_on_the_next_one(self):
        wanted = copy.deepcopy(alike_paper(book(), book()))
        paper = alike_paper(book(), book())
        for rows in paper.values():
            rows.append((1, 1, 1, 1, 1))
        paper.clear()
        self.assertEqual(alike_paper(book(), book()), wanted)
        self.assertEqual(alike_paper(other=book(), one=book()), wanted)

    def test_limits(self):
        rng = random.Random(27)
        for seed in range(6):
            plain = great_told(seed)
            for other in (renamed(plain, rng), altered(plain, rng)):
                first, second = made(plain), made(other)
                paper = alike_paper(first, second)
                self.assertIs(paper is None, not alike(first, second))
                if paper is not None:
                    self.assertIs(check_alike(first, second, paper), True)

    def test_no_documents(self):
        none = Scheme({"a": 0}, {"k": ([("add", "a", 1)], read_label("{a}"))}, begins=[])
        other = none.with_label("k", None)
        self.assertEqual((alike(none, other), alike_paper(none, other), check_alike(none, other, {})), (True, {}, True))
        self.assertIs(check_alike(none, other, {"k": []}), False)


if __name__ == "__main__":
    unittest.main()
