"""Points 32, 33 and 34: which later labels an edit can change, and what stands between."""

import itertools
import unittest

from partlabels.documents import is_document, labels
from partlabels.edits import exchange_case, put_in_case, shaken, shields, take_out_case
from partlabels.errors import UnknownName
from partlabels.labels import read_label
from partlabels.schemes import Scheme
from samples import (Case, NO_NAMES, all_told, begins_of, book, first_wrong, follows_of, great_told, made, small_told,
                     some_documents, values_behind)


def label_behind(plain, now, row):
    """The label of the last part of a row, with some values ahead of it; the numbers stand for the text."""
    label = plain["kinds"][row[-1]][1]
    if label is None:
        return None
    behind = values_behind(plain, row, now)
    return [behind[counter] for counter, _ in label.shown]


def may_stand(plain, before, kind):
    return kind in (follows_of(plain, before[-1]) if before else begins_of(plain))


def halves(plain, most, longest):
    """All documents up to some length, each parted at each place but the end."""
    for document in some_documents(plain, most, longest):
        for place in range(len(document)):
            yield document[:place], document[place:]


def put_in_cases(plain, most=400, longest=6):
    """For each two kinds with a case in a short document, the kinds that stand between in one."""
    found = {}
    for begun, rest in halves(plain, most, longest):
        now = values_behind(plain, begun, plain["starts"])
        for kind in plain["kinds"]:
            if may_stand(plain, begun, kind) and may_stand(plain, [kind], rest[0]):
                later = values_behind(plain, [kind], now)
                if label_behind(plain, now, rest) != label_behind(plain, later, rest):
                    found.setdefault((kind, rest[-1]), set()).update(rest[:-1])
    return found


def exchange_cases(plain, most=400, longest=6):
    """The threes of kinds with a case in a short document."""
    found = set()
    for begun, rest in halves(plain, most, longest):
        if len(rest) > 2:
            changed = [rest[1], rest[0], *rest[2:]]
            now = values_behind(plain, begun, plain["starts"])
            if label_behind(plain, now, rest) != label_behind(plain, now, changed):
                if first_wrong(plain, begun + changed) is None:
                    found.add((rest[0], rest[1], rest[-1]))
    return found


def samples():
    yield from (small_told(seed, 2, 2) for seed in range(80))
    yield from (small_told(seed) for seed in range(120))
    yield from (small_told(seed, 3, 4, 2) for seed in range(40))
    yield from (small_told(seed, 4, 6, 4, 5) for seed in range(20))
    yield from all_told(24)


class Told(Case):
    def check_form(self, plain, found, later):
        """Check that a case has a document that ends with a kind, and return it with its place."""
        self.assertIs(type(found), tuple)
        document, place = found
        self.assertEqual((type(document), type(place)), (list, int))
        self.assertTrue(is_document(made(plain), document))
        self.assertEqual(document[-1], later)
        self.assertIn(place, range(len(document)))
        return found

    def check_change(self, plain, document, changed):
        """Check that a changed document is one, and has another label at its end."""
        self.assertTrue(is_document(made(plain), changed))
        before, behind = labels(made(plain), document)[-1], labels(made(plain), changed)[-1]
        self.assertIsNotNone(before)
        self.assertNotEqual(before, behind)

    def check_put_in(self, plain, kind, later, found):
        document, place = self.check_form(plain, found, later)
        self.check_change(plain, document, [*document[:place], kind, *document[place:]])

    def check_take_out(self, plain, kind, later, found):
        document, place = self.check_form(plain, found, later)
        self.assertLess(place, len(document) - 1)
        self.assertEqual(document[place], kind)
        self.check_change(plain, document, [*document[:place], *document[place + 1:]])

    def check_exchange(self, plain, kind, other, later, found):
        document, place = self.check_form(plain, found, later)
        self.assertLess(place + 1, len(document) - 1)
        self.assertEqual(document[place:place + 2], [kind, other])
        self.check_change(plain, document, [*document[:place], other, kind, *document[place + 2:]])


class Cases(Told):
    def test_each_pair_of_kinds(self):
        some = none = 0
        for plain in samples():
            scheme, cases = made(plain), put_in_cases(plain)
            for kind, later in itertools.product(sorted(plain["kinds"]), repeat=2):
                with self.subTest(plain=plain, kind=kind, later=later):
                    put_in, take_out = put_in_case(scheme, kind, later), take_out_case(scheme, kind, later)
                    self.assertIs(put_in is None, take_out is None)
                    self.assertIs(later in shaken(scheme, kind), put_in is not None)
                    between = shields(scheme, kind, later)
                    self.assertEqual(between, sorted(between))
                    if put_in is None:
                        none += 1
                        self.assertNotIn((kind, later), cases)
                        self.assertEqual(between, sorted(plain["kinds"]))
                    else:
                        some += 1
                        self.check_put_in(plain, kind, later, put_in)
                        self.check_take_out(plain, kind, later, take_out)
                        self.assertEqual(set(between) & cases.get((kind, later), set()), set())
        self.assertGreater(min(some, none), 300)

    def test_shields_of_small_schemes(self):
        found = {0: 0, 1: 0, 2: 0}
        for seed in range(150):
            plain = small_told(seed, 2, 2 + seed % 2)
            scheme, cases = made(plain), put_in_cases(plain, 1200, 7)
            for kind, later in itertools.product(sorted(plain["kinds"]), repeat=2):
                between = cases.get((kind, later), set())
                with self.subTest(plain=plain, kind=kind, later=later):
                    self.assertEqual(shields(scheme, kind, later), sorted(set(plain["kinds"]) - between))
                    found[min(2, len(between))] += 1
        self.assertGreater(min(found.values()), 30)

    def test_each_three_kinds(self):
        some = none = 0
        for plain in samples():
            scheme, cases = made(plain), exchange_cases(plain)
            for kind, other, later in itertools.product(sorted(plain["kinds"]), repeat=3):
                with self.subTest(plain=plain, kind=kind, other=other, later=later):
                    found = exchange_case(scheme, kind, other, later)
                    self.assertIs(found is None, exchange_case(scheme, other, kind, later) is None)
                    if found is None:
                        none += 1
                        self.assertNotIn((kind, other, later), cases)
                    else:
                        some += 1
                        self.check_exchange(plain, kind, other, later, found)
        self.assertGreater(min(some, none), 200)


class Chosen(Told):
    def test_only_behind_many_parts(self):
        # What m sets b to is what it is already, but behind q, which is far away from the beginning.
        kinds = {"k": ([], read_label("{b}")), "m": ([("set", "b", 5)], None), "n": ([], None), "o": ([], None),
                 "p": ([], None), "q": ([("add", "b", 1)], None)}
        follows = {"k": ["m", "n", "k"], "m": ["k"], "n": ["o"], "o": ["p"], "p": ["q"], "q": ["k"]}
        plain = {"starts": {"a": 0, "b": 5}, "kinds": kinds, "follows": follows, "begins": ["k"]}
        self.check_put_in(plain, "m", "k", put_in_case(made(plain), "m", "k"))
        self.assertEqual((shaken(made(plain), "m"), shaken(made(plain), "k")), (["k"], []))
        # A part of m behind q stands ahead of a part of k; behind this, all kinds but m can come.
        self.assertEqual(shields(made(plain), "m", "k"), ["m"])
        follows["q"] = ["p"]
        self.assertIs(put_in_case(made(plain), "m", "k"), None)
        self.assertEqual(shields(made(plain), "m", "k"), list("kmnopq"))

    def test_at_the_beginning(self):
        kinds = {"k": ([], read_label("{a}")), "m": ([("set", "a", 3)], None)}
        plain = {"starts": {"a": 0}, "kinds": kinds, "follows": {"m": ["k"]}, "begins": ["k", "m"]}
        self.assertEqual(put_in_case(made(plain), "m", "k"), (["k"], 0))
        self.assertEqual(take_out_case(made(plain), "m", "k"), (["m", "k"], 0))
        self.assertEqual(shields(made(plain), "m", "k"), ["k", "m"])
        for change in ({"begins": ["k"]}, {"begins": ["m"]}, {"starts": {"a": 3}}, {"follows": {"k": ["k"]}},
                       {"kinds": {**kinds, "k": ([], None)}}):
            other = made({**plain, **change})
            self.assertEqual((put_in_case(other, "m", "k"), take_out_case(other, "m", "k")), (None, None))
            self.assertEqual((shaken(other, "m"), shields(other, "m", "k")), ([], ["k", "m"]))
        plain["kinds"] = {**kinds, "k": ([("set", "a", 1)], read_label("{a}"))}
        self.assertIs(put_in_case(made(plain), "m", "k"), None)

    def test_orders(self):
        for one, two, wanted in (([("add", "a", 1)], [("add", "a", 2)], False), ([("add", "a", 1)], [], False),
                                 ([("set", "a", 1)], [("set", "a", 2)], True), ([("set", "a", 2)], [], False),
                                 ([("set", "a", 2)], [("set", "a", 2)], False),
                                 ([("set", "a", 2)], [("add", "a", 1)], True), ([("set", "b", 2)], [("add", "b", 1)], False),
                                 ([("set", "a", 2)], [("set", "a", 1), ("add", "a", 1)], False)):
            plain = {"starts": {"a": 0, "b": 0}, "kinds": {"k": (one, None), "l": (two, None),
                                                           "m": ([], read_label("{a}"))}, "follows": None, "begins": None}
            for kind, other in ("kl", "lk"):
                found = exchange_case(made(plain), kind, other, "m")
                self.assertIs(found is not None, wanted)
                if found is not None:
                    self.check_exchange(plain, kind, other, "m", found)
            for lacking in (("k", "l"), ("l", "k"), ("k", "m"), ("l", "m")):
                follows = {kind: [other for other in "klm" if (kind, other) != lacking] for kind in "klm"}
                found = exchange_case(made({**plain, "follows": follows}), "k", "l", "m")
                # With fewer kinds that may follow, what was told can still be told, or there is no case.
                if found is not None:
                    self.check_exchange({**plain, "follows": follows}, "k", "l", "m", found)
                self.assertIs(found is not None, wanted and lacking[1] == "m" and self.by_others(plain, follows))

    def test_exchanged_only_at_the_beginning(self):
        kinds = {"k": ([("add", "a", 1)], None), "l": ([("set", "a", 3)], None), "m": ([], read_label("{a}"))}
        follows = {"k": ["l", "m"], "l": ["k", "m"]}
        plain = {"starts": {"a": 0}, "kinds": kinds, "follows": follows, "begins": ["k", "l"]}
        self.assertEqual(exchange_case(made(plain), "k", "l", "m"), (["k", "l", "m"], 0))
        self.assertEqual(exchange_case(made(plain), "l", "k", "m"), (["l", "k", "m"], 0))
        for begins in (["k"], ["l"], ["m"], []):
            self.assertIs(exchange_case(made({**plain, "begins": begins}), "k", "l", "m"), None)
        # Behind n both may stand, though neither begins.
        plain["kinds"] = {**kinds, "n": ([], None)}
        other = {**plain, "follows": {**follows, "n": ["k", "l"]}, "begins": ["n"]}
        self.assertEqual(exchange_case(made(other), "k", "l", "m"), (["n", "k", "l", "m"], 1))

    def by_others(self, plain, follows):
        """Whether a longer row leads to a case without the step that is lacking."""
        return ("k", "l", "m") in exchange_cases({**plain, "follows": follows}, 2000, 7)

    def test_kinds_that_are_not_reached(self):
        kinds = {"k": ([("add", "a", 1)], read_label("{a}")), "m": ([("add", "a", 1)], read_label("{a}"))}
        plain = {"starts": {"a": 0}, "kinds": kinds, "follows": {"k": ["k"], "m": ["m", "k"]}, "begins": ["k"]}
        scheme = made(plain)
        self.assertEqual((shaken(scheme, "k"), shaken(scheme, "m")), (["k"], []))
        self.assertEqual((put_in_case(scheme, "m", "k"), take_out_case(scheme, "k", "m")), (None, None))
        self.assertEqual((shields(scheme, "m", "k"), shields(scheme, "k", "k")), (["k", "m"], ["m"]))
        self.assertIs(exchange_case(scheme, "m", "k", "k"), None)

    def test_new_each_time(self):
        shaken(book(), "figure").clear()
        shields(book(), "figure", "figure").clear()
        put_in_case(book(), "figure", "figure")[0].clear()
        self.assertEqual((shaken(kind="figure", scheme=book()), shields(later="figure", kind="figure", scheme=book())),
                         (["figure"], ["chapter"]))
        plain = {"starts": {"a": 0}, "kinds": {"k": ([("add", "a", 1)], read_label("{a}"))}, "follows": None,
                 "begins": None}
        self.check_put_in(plain, "k", "k", put_in_case(later="k", kind="k", scheme=made(plain)))
        self.check_take_out(plain, "k", "k", take_out_case(later="k", kind="k", scheme=made(plain)))
        self.assertIs(exchange_case(later="k", other="k", kind="k", scheme=made(plain)), None)

    def test_errors(self):
        none = Scheme({"a": 0}, {"k": ([], None), "m": ([], None)}, begins=[])
        for name in [*NO_NAMES, "a", "page"]:
            for function in (put_in_case, take_out_case, shields):
                self.check_error(UnknownName, [name], function, none, name, "k")
                self.check_error(UnknownName, [name], function, none, "k", name)
                self.check_error(UnknownName, [name], function, none, name, "other")
            self.check_error(UnknownName, [name], shaken, none, name)
            self.check_error(UnknownName, [name], exchange_case, none, name, "x", "y")
            self.check_error(UnknownName, [name], exchange_case, none, "k", name, "y")
            self.check_error(UnknownName, [name], exchange_case, none, "k", "m", name)
        self.assertEqual((put_in_case(none, "k", "m"), shaken(none, "k"), shields(none, "k", "k")), (None, [], ["k", "m"]))

    def test_limits(self):
        for seed in range(6):
            plain = great_told(seed)
            for kind, later in itertools.product(sorted(plain["kinds"])[:3], repeat=2):
                found = put_in_case(made(plain), kind, later)
                if found is not None:
                    self.check_put_in(plain, kind, later, found)


if __name__ == "__main__":
    unittest.main()
