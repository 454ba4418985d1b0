"""Points 21, 22 and 23: equations, all of them, and remainders."""

import itertools
import math
import random
import unittest

from partlabels.documents import is_document, reached, values
from partlabels.equations import against_equation, equations, is_equation, remainders, spanning
from partlabels.errors import BadNumber, BadRow, NoDocument, UnknownName
from partlabels.schemes import Scheme
from samples import (Case, NO_INTEGERS, NO_NAMES, all_told, book, great_told, long_walks, made, rank, reached_in,
                     small_told, some_documents, values_behind)


def point(plain, document):
    """The values behind a document, in ascending order of the counters, and 1."""
    now = values_behind(plain, document, plain["starts"])
    return [*[now[counter] for counter in sorted(now)], 1]


def row_sum(row, numbers):
    return sum(number * other for number, other in zip(row, numbers))


def points_by_kind(plain, most=700, longest=7):
    """The points behind documents, short ones and some long ones, for each last kind."""
    found = {}
    for document in [*some_documents(plain, most, longest), *long_walks(plain)]:
        found.setdefault(document[-1], []).append(point(plain, document))
    return found


def samples():
    yield from (small_told(seed) for seed in range(120))
    yield from (small_told(seed, 4, 6, 6, 5) for seed in range(60))
    yield from all_told(48)


def no_rows(many):
    """Values that are no rows for a scheme with so many counters."""
    row = (1,) * (many + 1)
    yield from [None, True, False, 0, 1, "", "1", "1" * (many + 1), [], {}, (), list(row), [list(row)], (row,)]
    yield from [row[:-1], (*row, 0), (*row, *row), {number: number for number in range(many + 1)}, set(row)]
    for wrong in [*NO_INTEGERS, (1,), row]:
        for place in range(many + 1):
            yield (*row[:place], wrong, *row[place + 1:])


class One(Case):
    def check_breaking(self, plain, kind, row):
        """Check what is told of a row, which need not be an equation."""
        scheme = made(plain)
        document = against_equation(scheme, kind, row)
        self.assertIs(is_equation(scheme, kind, row), document is None)
        short = some_documents(plain, 700, 6)
        breaking = [one for one in short if one[-1] == kind and row_sum(row, point(plain, one)) != 0]
        if document is None:
            self.assertEqual(breaking, [])
            return False
        self.assertIs(type(document), list)
        self.assertTrue(is_document(scheme, document))
        self.assertEqual(document[-1], kind)
        self.assertNotEqual(row_sum(row, point(plain, document)), 0)
        if breaking:
            self.assertEqual(len(document), len(breaking[0]))
        elif short:
            self.assertGreaterEqual(len(document), len(short[-1]))
        return True

    def test_rows_of_all_sorts(self):
        rng = random.Random(21)
        holding = broken = 0
        for plain in samples():
            many = len(plain["starts"])
            for kind in sorted(reached_in(plain)):
                listed = equations(made(plain), kind)
                rows = [(0,) * (many + 1), (0,) * many + (1,), tuple(rng.randint(-3, 3) for _ in range(many + 1))]
                total = [0] * (many + 1)
                for row in listed:
                    factor = rng.choice([-(10 ** 29), -2, 1, 3, 10 ** 28])
                    total = [number + factor * other for number, other in zip(total, row)]
                    place = rng.randrange(many + 1)
                    rows.extend([row, (*row[:place], row[place] + rng.choice([-1, 1, 10 ** 20]), *row[place + 1:])])
                rows.append(tuple(total))
                with self.subTest(plain=plain, kind=kind):
                    for row in rows:
                        told = self.check_breaking(plain, kind, row)
                        holding, broken = holding + (not told), broken + told
                    for row in [*listed, tuple(total)]:
                        self.assertIs(is_equation(made(plain), kind, row), True)
        self.assertGreater(min(holding, broken), 300)

    def test_long_ways_to_break_an_equation(self):
        # Each of the kinds from k to p hands on to the next one; only far behind is b more than a.
        follows = {kind: [other] for kind, other in zip("klmnop", "lmnopk")}
        kinds = {kind: ([], None) for kind in "klmnop"}
        kinds["p"] = ([("add", "a", 1), ("set", "b", 3)], None)
        scheme = Scheme({"a": 1, "b": 0}, kinds, follows=follows, begins=["k"])
        self.assertEqual(against_equation(scheme, "k", (1, 0, -1)), list("klmnopk"))
        self.assertEqual(against_equation(scheme, "k", (-2, 1, 2)), list("klmnopk"))
        self.assertEqual(against_equation(scheme, "k", (-3, 1, 3)), list("klmnop") * 2 + ["k"])
        self.assertEqual(against_equation(scheme, "l", (-6, 4, 6)), list("klmnopkl"))
        self.assertEqual(against_equation(scheme, "l", (0, 1, 0)), list("klmnopkl"))

    def test_errors(self):
        for seed in range(40):
            plain = small_told(seed, 4, 5)
            scheme, many = made(plain), len(plain["starts"])
            for row in no_rows(many):
                for function in (is_equation, against_equation):
                    for kind in plain["kinds"]:
                        if kind in reached_in(plain):
                            self.check_error(BadRow, [], function, scheme, kind, row)
                        else:
                            self.check_error(NoDocument, [kind], function, scheme, kind, row)
                    for name in [*NO_NAMES[:3], "a", "page"]:
                        self.check_error(UnknownName, [name], function, scheme, name, row)
        for name in NO_NAMES:
            for function in (equations, spanning):
                self.check_error(UnknownName, [name], function, book(), name)

    def test_names_of_the_parameters(self):
        self.assertIs(is_equation(row=(1, 0, -1), scheme=book(), kind="chapter"), False)
        self.assertEqual(against_equation(kind="chapter", row=(1, 0, -1), scheme=book()), ["chapter"] * 2)


class Everything(Case):
    def test_reduced_lists(self):
        for plain in samples():
            scheme, points = made(plain), points_by_kind(plain)
            many = len(plain["starts"])
            for kind in sorted(plain["kinds"]):
                if kind not in reached(scheme):
                    self.check_error(NoDocument, [kind], equations, scheme, kind)
                    self.check_error(NoDocument, [kind], spanning, scheme, kind)
                    continue
                rows, documents = equations(scheme, kind), spanning(scheme, kind)
                with self.subTest(plain=plain, kind=kind):
                    self.check_reduced(rows, many + 1)
                    # All equations hold, and there are no further ones, since documents break them.
                    for numbers in points.get(kind, []):
                        self.assertEqual([row_sum(row, numbers) for row in rows], [0] * len(rows))
                    self.assertEqual(len(documents) + len(rows), many + 1)
                    self.assertEqual(rank([point(plain, document) for document in documents]), len(documents))
                    self.assertGreaterEqual(len(documents), rank(points.get(kind, [])))
                    for document in documents:
                        self.assertIs(type(document), list)
                        self.assertTrue(is_document(scheme, document))
                        self.assertEqual(document[-1], kind)

    def check_reduced(self, rows, width):
        self.assertIs(type(rows), list)
        leads = []
        for row in rows:
            self.assertIs(type(row), tuple)
            self.assertEqual(({type(number) for number in row}, len(row)), ({int}, width))
            lead = next(place for place, number in enumerate(row) if number)
            self.assertGreater(row[lead], 0)
            self.assertEqual(math.gcd(*row), 1)
            leads.append(lead)
        self.assertEqual(leads, sorted(set(leads)))
        for lead, (place, row) in itertools.product(enumerate(leads), enumerate(rows)):
            if lead[0] != place:
                self.assertEqual(row[lead[1]], 0)

    def test_signs_and_common_divisors(self):
        kinds = {"k": ([("add", "a", 6), ("add", "b", 4), ("add", "c", 10)], None)}
        scheme = Scheme({"a": 1, "b": 0, "c": 3}, kinds)
        self.assertEqual(equations(scheme, "k"), [(5, 0, -3, 4), (0, 5, -2, 6)])
        fixed = Scheme({"a": 6, "b": 0}, {"k": ([("set", "b", 9)], None)})
        self.assertEqual(equations(fixed, "k"), [(1, 0, -6), (0, 1, -9)])
        free = Scheme({"a": 6}, {"k": ([("add", "a", 9)], None)})
        self.assertEqual((equations(free, "k"), spanning(free, "k")), ([], [["k"], ["k", "k"]]))
        self.assertEqual(equations(free.with_deeds("k", []), "k"), [(1, -6)])

    def test_kinds_differ(self):
        self.assertEqual(equations(book(), "chapter"), [(0, 1, 0)])
        self.assertEqual(equations(book(), "figure"), [])
        equations(book(), "chapter").clear()
        self.assertEqual(equations(kind="chapter", scheme=book()), [(0, 1, 0)])
        self.assertEqual(len(spanning(kind="chapter", scheme=book())), 2)

    def test_limits(self):
        for seed in range(12):
            plain = great_told(seed)
            for kind in plain["kinds"]:
                rows = equations(made(plain), kind)
                for document in long_walks(plain, 4):
                    if document[-1] == kind:
                        self.assertEqual([row_sum(row, point(plain, document)) for row in rows], [0] * len(rows))


class Remainders(Case):
    def test_all_divisors(self):
        for plain in samples():
            scheme, documents = made(plain), [*some_documents(plain, 500), *long_walks(plain, 20, 140)]
            counter = sorted(plain["starts"])[0]
            ends = [(document[-1], values_behind(plain, document, plain["starts"])[counter]) for document in documents]
            for divisor in range(2, 13):
                for kind in reached(scheme):
                    found = remainders(scheme, kind, counter, divisor)
                    self.assertIs(type(found), list)
                    self.assertEqual(found, sorted(set(found)))
                    self.assertLessEqual({number % divisor for last, number in ends if last == kind}, set(found))
                    self.assertEqual(found, self.reference(plain, kind, counter, divisor))

    def reference(self, plain, kind, counter, divisor):
        """The remainders, found by making all steps again and again until there are no new ones."""
        deeds = {one: [deed for deed in plain["kinds"][one][0] if deed[1] == counter] for one in plain["kinds"]}
        allowed = {(one, other) for one in plain["kinds"] for other in plain["kinds"]
                   if plain["follows"] is None or other in plain["follows"].get(one, [])}
        begins = plain["kinds"] if plain["begins"] is None else plain["begins"]
        known, size = set(), -1
        while size != len(known):
            size = len(known)
            steps = [(plain["starts"][counter], one) for one in begins]
            steps += [(number, other) for one, number in known for first, other in allowed if first == one]
            for number, other in steps:
                for word, _, more in deeds[other]:
                    number = more if word == "set" else number + more
                known.add((other, number % divisor))
        return sorted(number for one, number in known if one == kind)

    def test_only_far_behind(self):
        scheme = Scheme({"a": 5}, {"k": ([("add", "a", 7)], None)})
        self.assertEqual(remainders(scheme, "k", "a", 12), list(range(12)))
        self.assertEqual(remainders(scheme, "k", "a", 7), [5])
        self.assertEqual(remainders(scheme.with_deeds("k", [("add", "a", 8)]), "k", "a", 12), [1, 5, 9])
        self.assertEqual(remainders(divisor=2, counter="chapter", kind="figure", scheme=book()), [0, 1])

    def test_errors(self):
        hidden = Scheme({"a": 0}, {"k": ([], None), "m": ([], None)}, begins=["k"], follows={})
        wrong = [*NO_INTEGERS, 0, 1, 13, -1, -2, 10 ** 29, -(10 ** 29), "2", (2,), [2], 2.0]
        for divisor in wrong:
            self.check_error(BadNumber, [divisor], remainders, hidden, "k", "a", divisor)
            for name in [*NO_NAMES, "k", "b"]:
                self.check_error(UnknownName, [name], remainders, hidden, "k", name, divisor)
                self.check_error(NoDocument, ["m"], remainders, hidden, "m", name, divisor)
                self.check_error(UnknownName, ["a"], remainders, hidden, "a", name, divisor)
        for divisor in range(2, 13):
            self.assertEqual(remainders(hidden, "k", "a", divisor), [0])


class Agreeing(Case):
    def test_values_of_documents(self):
        for plain in samples():
            scheme = made(plain)
            for document in long_walks(plain, 3, 100):
                now = values(scheme, document)
                numbers = [*[now[counter] for counter in scheme.counters()], 1]
                self.assertEqual([row_sum(row, numbers) for row in equations(scheme, document[-1])],
                                 [0] * len(equations(scheme, document[-1])))


if __name__ == "__main__":
    unittest.main()
