"""Points 16, 17 and 18: documents, all of them, and long ones."""

import inspect
import itertools
import random
import unittest

from partlabels.documents import (documents, is_document, labels, long_label, long_values, reached, shortest_document,
                                  values)
from partlabels.errors import BadCount, BadNumber, NoDocument, NotDocument, UnknownName
from partlabels.labels import read_label
from partlabels.schemes import Scheme
from samples import (Case, NO_INTEGERS, NO_NAMES, all_documents, all_told, begins_of, book, first_wrong, follows_of,
                     labels_in, made, values_behind, walk)


def plain_scheme():
    """k and m go on with each other, n ends each document and begins only by itself; o is not reached."""
    return {"starts": {"a": 3, "b": 0},
            "kinds": {"k": ([("add", "a", 2), ("set", "b", 1)], read_label("K {a}/{b:a}")),
                      "m": ([("set", "a", 0), ("add", "a", 5), ("add", "b", 7)], None),
                      "n": ([("add", "b", 1)], read_label("{b}")), "o": ([], None)},
            "follows": {"k": ["m", "k"], "m": ["k", "n"], "o": ["k", "o"]}, "begins": ["n", "k"]}


def some_rows(plain, seed):
    """Rows of kinds, documents and others, also with names that are no kinds."""
    rng = random.Random(seed)
    for many in (0, 1, 1, 2, 2, 3, 5, 8):
        yield [rng.choice(list(plain["kinds"])) for _ in range(many)]
        document = walk(plain, rng.random(), many)
        yield document
        if document:
            wrong = list(document)
            wrong[rng.randrange(len(wrong))] = rng.choice(["", "no", "K", *plain["kinds"]])
            yield wrong


class Parts(Case):
    def test_all_rows(self):
        for seed, plain in enumerate(all_told()):
            scheme = made(plain)
            for row in some_rows(plain, seed):
                before = list(row)
                wrong = first_wrong(plain, row)
                with self.subTest(plain=plain, row=row):
                    self.assertIs(is_document(scheme, row), wrong is None)
                    self.assertIs(is_document(scheme, tuple(row)), wrong is None)
                    if wrong is None:
                        self.assertEqual(values(scheme, row), values_behind(plain, row, plain["starts"]))
                        self.assertEqual(labels(scheme, row), labels_in(plain, row))
                        self.assertEqual(values(scheme, tuple(row)), values(scheme, row))
                        self.assertEqual(labels(scheme, tuple(row)), labels(scheme, row))
                    else:
                        self.check_error(NotDocument, [wrong], values, scheme, row)
                        self.check_error(NotDocument, [wrong], labels, scheme, row)
                    self.assertEqual(row, before)

    def test_the_empty_document(self):
        for plain in all_told(24):
            scheme = made(plain)
            self.assertEqual((is_document(scheme, []), values(scheme, []), labels(scheme, [])),
                             (True, plain["starts"], []))
            self.assertIs(is_document(scheme, ()), True)
            values(scheme, []).clear()
            self.assertEqual(values(scheme, []), plain["starts"])

    def test_wrong_parts(self):
        scheme = made(plain_scheme())
        for row, wrong in ((["m"], 0), (["o"], 0), (["n", "n"], 1), (["k", "n"], 1), (["k", "m", "m"], 2),
                           (["k", "k", "m", "n", "k"], 4), (["q"], 0), (["k", "q", "m"], 1), (["k", "m", ""], 2),
                           (["K"], 0), (["a"], 0), (["k", "a"], 1), (["k"] * 99 + ["n"], 99)):
            self.assertIs(is_document(scheme, row), False)
            self.check_error(NotDocument, [wrong], values, scheme, row)
            self.check_error(NotDocument, [wrong], labels, scheme, row)

    def test_a_hundred_parts(self):
        for seed, plain in enumerate(all_told()):
            document = walk(plain, seed, 100)
            self.assertEqual(values(made(plain), document), values_behind(plain, document, plain["starts"]))
            self.assertEqual(labels(made(plain), document), labels_in(plain, document))
        scheme = made(plain_scheme())
        self.assertEqual(labels(scheme, ["k"] * 100)[-1], "K 203/a")
        self.assertEqual(len(labels(scheme, ["k", "m"] * 1000)), 2000)

    def test_values_and_labels(self):
        scheme = made(plain_scheme())
        self.assertEqual(labels(scheme, ["k", "m", "k", "m", "n"]), ["K 5/a", None, "K 7/a", None, "9"])
        self.assertEqual(values(scheme, ["k", "m"]), {"a": 5, "b": 8})
        self.assertEqual(values(document=["k"], scheme=scheme), {"a": 5, "b": 1})
        self.assertEqual(labels(document=["k"], scheme=scheme), ["K 5/a"])
        self.assertIs(is_document(document=["k"], scheme=scheme), True)


class All(Case):
    def test_each_length(self):
        for plain in all_told():
            scheme = made(plain)
            for length in range(5 if len(plain["kinds"]) < 5 else 4):
                found = list(documents(scheme, length))
                self.assertEqual(found, all_documents(plain, length))
                self.assertEqual({type(document) for document in found} - {list}, set())
            self.assertEqual(list(documents(scheme, 0)), [[]])

    def test_more_than_there_are_kinds(self):
        for plain in all_told(48)[:8]:
            for length in range(9):
                self.assertEqual(list(documents(made(plain), length)), all_documents(plain, length))
        chain = {"starts": {"a": 0}, "kinds": {kind: ([], None) for kind in "abcdef"},
                 "follows": {"a": ["b", "c"], "b": ["c"], "c": ["d"], "d": ["e"], "e": ["f"]}, "begins": ["a", "b"]}
        for length in range(9):
            self.assertEqual(list(documents(made(chain), length)), all_documents(chain, length))
        self.assertEqual(list(documents(made(chain), 7)), [])
        chain["follows"]["f"] = ["f"]
        for length in range(8):
            self.assertEqual(list(documents(made(chain), length)), all_documents(chain, length))
        self.assertEqual([document[:7] for document in documents(made(chain), 100)],
                         [list("abcdeff"), list("acdefff"), list("bcdefff")])

    def test_one_after_the_other(self):
        scheme = Scheme({"a": 0}, {kind: ([], None) for kind in ("b", "a", "c", "d", "e", "f")})
        found = list(itertools.islice(documents(scheme, 100), 36))
        self.assertEqual([document[:98] for document in found], [["a"] * 98] * 36)
        self.assertEqual([document[98:] for document in found],
                         [list(row) for row in itertools.product("abcdef", repeat=2)])
        # The lesser kinds lead to ends that must be passed over.
        follows = {"a": ["b"], "b": ["c"], "c": ["d"], "d": ["e"], "e": [], "f": ["a", "b", "c", "f"]}
        ends = Scheme({"a": 0}, {kind: ([], None) for kind in "abcdef"}, follows=follows)
        self.assertEqual(["".join(document[94:]) for document in itertools.islice(documents(ends, 100), 3)],
                         ["fabcde", "ffabcd", "ffbcde"])

    def test_it_is_a_generator(self):
        found = documents(book(), 3)
        self.assertTrue(inspect.isgenerator(found))
        self.assertEqual(next(found), ["chapter"] * 3)
        self.assertEqual(list(documents(length=1, scheme=book())), [["chapter"]])

    def test_each_list_is_new(self):
        for plain in all_told(24):
            wanted = all_documents(plain, 3)
            found = []
            for document in documents(made(plain), 3):
                found.append(list(document))
                document.reverse()
                document.append("more")
                document[0] = "zz"
            self.assertEqual(found, wanted)
        kept = list(documents(book(), 3))
        self.assertEqual(len({id(document) for document in kept}), len(kept))

    def test_wrong_lengths(self):
        for length in [*NO_INTEGERS, -1, -(10 ** 29)]:
            with self.subTest(length=length):
                self.check_error(BadNumber, [length], lambda: list(documents(book(), length)))
                self.check_error(BadNumber, [length], lambda: next(documents(book(), length)))


class Reached(Case):
    def test_reached_kinds(self):
        for plain in all_told():
            scheme = made(plain)
            found = set(begins_of(plain))
            for _ in plain["kinds"]:
                found.update(other for kind in list(found) for other in follows_of(plain, kind))
            self.assertEqual(reached(scheme), sorted(found))
            reached(scheme).clear()
            self.assertEqual(reached(scheme), sorted(found))

    def test_shortest_documents(self):
        for plain in all_told():
            scheme = made(plain)
            for kind in sorted(plain["kinds"]):
                if kind not in reached(scheme):
                    self.check_error(NoDocument, [kind], shortest_document, scheme, kind)
                    continue
                lengths = range(1, 7) if len(plain["kinds"]) < 5 else range(1, 6)
                found = next(document for length in lengths for document in all_documents(plain, length)
                             if document[-1] == kind)
                self.assertEqual(shortest_document(scheme, kind), found)
                shortest_document(scheme, kind).clear()
                self.assertEqual(shortest_document(kind=kind, scheme=scheme), found)

    def test_the_first_of_several(self):
        follows = {"a": ["d", "c"], "b": ["e"], "c": ["f"], "d": ["f", "e"], "e": ["f"]}
        scheme = Scheme({"a": 0}, {kind: ([], None) for kind in "abcdef"}, follows=follows, begins=["b", "a"])
        self.assertEqual(["".join(shortest_document(scheme, kind)) for kind in "abcdef"],
                         ["a", "b", "ac", "ad", "be", "acf"])

    def test_no_beginners_and_no_followers(self):
        kinds = {kind: ([], None) for kind in "bac"}
        none = Scheme({"a": 0}, kinds, begins=[])
        self.assertEqual((reached(none), list(documents(none, 0)), list(documents(none, 1))), ([], [[]], []))
        self.check_error(NoDocument, ["a"], shortest_document, none, "a")
        single = Scheme({"a": 0}, kinds, follows={}, begins=["c", "b"])
        self.assertEqual((reached(single), list(documents(single, 1)), list(documents(single, 2))),
                         (["b", "c"], [["b"], ["c"]], []))
        self.assertEqual(shortest_document(single, "c"), ["c"])
        self.check_error(NoDocument, ["a"], shortest_document, single, "a")

    def test_unknown_kinds(self):
        none = Scheme({"a": 0}, {"k": ([], None)}, begins=[])
        for name in [*NO_NAMES, "page", "a"]:
            self.check_error(UnknownName, [name], shortest_document, none, name)
            self.check_error(UnknownName, [name], shortest_document, made(plain_scheme()), name)


def parts_of(blocks):
    return [kind for row, times in blocks for _ in range(times) for kind in row]


def wrong_block(plain, blocks):
    """The index of the first block in which a part cannot stand, found in the document as a list."""
    wrong = first_wrong(plain, parts_of(blocks))
    if wrong is None:
        return None
    return next(index for index in range(len(blocks)) if wrong < len(parts_of(blocks[:index + 1])))


def some_blocks(plain, seed):
    """Blocks with few repeats, most of them fitting behind one another."""
    rng = random.Random(seed)
    blocks, last = [], []
    for _ in range(rng.randint(0, 4)):
        row = []
        for _ in range(rng.randint(1, 4)):
            let = follows_of(plain, last[-1]) if last else begins_of(plain)
            row.append(rng.choice(let if let and rng.random() < 0.95 else sorted(plain["kinds"])))
            last = row[-1:]
        blocks.append((row, rng.choice([1, 1, 2, 3])))
    return blocks


class Long(Case):
    def test_few_repeats(self):
        good = bad = 0
        for seed in range(40):
            for number, plain in enumerate(all_told()):
                blocks = some_blocks(plain, seed * 1000 + number)
                scheme, wrong, document = made(plain), wrong_block(plain, blocks), parts_of(blocks)
                if wrong is not None:
                    bad += 1
                    self.check_error(NotDocument, [wrong], long_values, scheme, blocks)
                    self.check_error(NotDocument, [wrong], long_label, scheme, blocks)
                    continue
                good += 1
                self.assertEqual(long_values(scheme, blocks), values(scheme, document))
                if blocks:
                    self.assertEqual(long_label(scheme, blocks), labels(scheme, document)[-1])
        self.assertGreater(min(good, bad), 500)

    def test_many_times(self):
        scheme = made(plain_scheme())
        for times in (1, 2, 3, 10 ** 29, 10 ** 30 - 1):
            blocks = [(["k"], times), (("m", "k"), times), (["m", "n"], 1)]
            before = [(["k"], times), (("m", "k"), times), (["m", "n"], 1)]
            self.assertEqual(long_values(scheme, blocks), {"a": 5, "b": 9})
            self.assertEqual(long_label(scheme, blocks), "9")
            self.assertEqual(long_values(scheme, blocks[:1]), {"a": 3 + 2 * times, "b": 1})
            self.assertEqual(long_label(scheme, tuple(blocks[:1])), f"K {3 + 2 * times}/a")
            self.assertIs(long_label(scheme, [*blocks[:1], (["m"], 1)]), None)
            self.assertEqual(blocks, before)
            self.assertEqual(long_values(blocks=blocks[:1], scheme=scheme), long_values(scheme, blocks[:1]))
            self.assertEqual(long_label(blocks=blocks[:1], scheme=scheme), long_label(scheme, blocks[:1]))

    def test_rows_that_follow_themselves_or_not(self):
        scheme = made(plain_scheme())
        for row in (["k"], ["k", "m"], ["k", "k", "m"]):
            self.assertEqual(long_values(scheme, [(row, 5)]), values(scheme, row * 5))
        for row in (["n"], ["k", "m", "n"]):
            self.assertEqual(long_values(scheme, [(row, 1)]), values(scheme, row))
            for times in (2, 3, 10 ** 29):
                self.check_error(NotDocument, [0], long_values, scheme, [(row, times)])
                self.check_error(NotDocument, [0], long_label, scheme, [(row, times), (["q"], 1)])
        # A row may follow itself and yet not begin, or not follow what stands before it.
        self.check_error(NotDocument, [0], long_values, scheme, [(["m", "k"], 2)])
        self.check_error(NotDocument, [1], long_values, scheme, [(["k"], 3), (["n"], 1)])
        self.check_error(NotDocument, [2], long_label, scheme, [(["k"], 1), (["m"], 1), (["m", "k"], 1)])
        self.check_error(NotDocument, [1], long_values, scheme, [(["k"], 7), (["m", "q", "k"], 1), (["o"], 1)])
        self.check_error(NotDocument, [1], long_values, scheme, [(["k"], 7), (["q"], 3)])
        self.check_error(NotDocument, [0], long_values, scheme, [(["q", "k"], 1)])
        self.check_error(NotDocument, [1], long_values, scheme, [(["k", "m"], 1), (["m"], 1), (["n"], 9)])

    def test_lengths_of_rows(self):
        scheme = made(plain_scheme())
        self.assertEqual(long_values(scheme, [(["k"] * 20, 10 ** 29)]), {"a": 3 + 40 * 10 ** 29, "b": 1})
        for row in ([], ["k"] * 21, ["q"] * 30, ["k"] * 100):
            for function in (long_values, long_label):
                self.check_error(BadCount, [len(row)], function, scheme, [(row, 1)])
                self.check_error(BadCount, [len(row)], function, scheme, [(["n"], 0), (["n"], 3), (row, -1), ([], 1)])
        self.check_error(BadCount, [22], long_values, scheme, [(["k"] * 22, 1), (["k"] * 21, 1), ([], 1)])

    def test_numbers_of_times(self):
        scheme = made(plain_scheme())
        for times in [*NO_INTEGERS, 0, -1, -(10 ** 29)]:
            for function in (long_values, long_label):
                with self.subTest(times=times):
                    self.check_error(BadNumber, [times], function, scheme, [(["k"], times)])
                    self.check_error(BadNumber, [times], function, scheme, [(["q"], 1), (["n"], times), (["k"], -5)])

    def test_no_blocks(self):
        scheme = made(plain_scheme())
        for none in ([], ()):
            self.assertEqual(long_values(scheme, none), {"a": 3, "b": 0})
            self.check_error(BadCount, [0], long_label, scheme, none)


if __name__ == "__main__":
    unittest.main()
