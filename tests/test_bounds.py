"""Points 28 and 29: greatest and least sums, and papers for them."""

import itertools
import random
import unittest

from partlabels.bounds import bound_paper, check_bound, greatest, greatest_document, least, raising
from partlabels.documents import is_document, shortest_document
from partlabels.errors import BadWeight, NoDocument, UnknownName
from partlabels.labels import read_label
from partlabels.schemes import Scheme
from samples import (Case, NO_INTEGERS, NO_NAMES, all_told, begins_of, book, follows_of, great_told, long_walks, made,
                     reached_in, small_told, some_documents, values_behind)


def samples():
    yield from (small_told(seed) for seed in range(150))
    yield from (small_told(seed, 4, 4, 4) for seed in range(60))
    yield from all_told(24)


def some_weights(plain, rng):
    """Weights of some counters or all, of both signs, 0 and great ones."""
    counters = sorted(plain["starts"])
    yield {}
    yield {counter: 0 for counter in counters}
    yield {rng.choice(counters): rng.choice([-1, 1, 10 ** 29, -(10 ** 30) + 1])}
    for _ in range(3):
        chosen = rng.sample(counters, rng.randint(1, len(counters)))
        yield {counter: rng.choice([-3, -2, -1, 0, 1, 2, 3]) for counter in chosen}


def sum_behind(plain, document, weights):
    now = values_behind(plain, document, plain["starts"])
    return sum(now[counter] * weight for counter, weight in weights.items())


class Sums(Case):
    def test_against_all_documents(self):
        rng = random.Random(28)
        ends = endless = 0
        for plain in samples():
            scheme = made(plain)
            short, far = some_documents(plain, 250), long_walks(plain, 3)
            for kind in sorted(reached_in(plain)):
                for weights in some_weights(plain, rng):
                    with self.subTest(plain=plain, kind=kind, weights=weights):
                        before = dict(weights)
                        sums = [sum_behind(plain, one, weights) for one in [*short, *far] if one[-1] == kind]
                        most = greatest(scheme, kind, weights)
                        turned = {counter: -weight for counter, weight in weights.items()}
                        low = least(scheme, kind, turned)
                        self.assertEqual(low, None if most is None else -most)
                        self.assertEqual(weights, before)
                        if most is None:
                            endless += 1
                            self.check_raising(plain, kind, weights)
                            self.assertIsNone(greatest_document(scheme, kind, weights))
                            self.assertIsNone(bound_paper(scheme, kind, weights))
                        else:
                            ends += 1
                            self.assertLessEqual(max([most, *sums]), most)
                            self.assertIsNone(raising(scheme, kind, weights))
                            self.check_greatest_document(plain, kind, weights, most, short)
        self.assertGreater(min(ends, endless), 150)

    def check_raising(self, plain, kind, weights):
        found = raising(made(plain), kind, weights)
        self.assertIs(type(found), tuple)
        begin, row, end = found
        self.assertEqual({type(begin), type(row), type(end)}, {list})
        self.assertGreater(len(row), 0)
        sums = []
        for times in (0, 1, 2, 3, 7):
            document = begin + row * times + end
            self.assertTrue(is_document(made(plain), document))
            self.assertEqual(document[-1], kind)
            sums.append(sum_behind(plain, document, weights))
        more = sums[1] - sums[0]
        self.assertGreaterEqual(more, 1)
        self.assertEqual(sums, [sums[0] + more * times for times in (0, 1, 2, 3, 7)])

    def check_greatest_document(self, plain, kind, weights, most, short):
        document = greatest_document(made(plain), kind, weights)
        self.assertIs(type(document), list)
        self.assertTrue(is_document(made(plain), document))
        self.assertEqual(document[-1], kind)
        self.assertEqual(sum_behind(plain, document, weights), most)
        as_great = [one for one in short if one[-1] == kind and sum_behind(plain, one, weights) == most]
        if as_great:
            self.assertEqual(len(document), len(as_great[0]))
        elif short:
            self.assertGreaterEqual(len(document), len(short[-1]))

    def test_no_weights(self):
        for plain in samples():
            for kind in reached_in(plain):
                zeros = {counter: 0 for counter in plain["starts"]}
                for weights in ({}, zeros):
                    self.assertEqual((greatest(made(plain), kind, weights), least(made(plain), kind, weights)), (0, 0))
                    self.assertEqual(len(greatest_document(made(plain), kind, weights)),
                                     len(shortest_document(made(plain), kind)))

    def test_long_ways_to_the_greatest_sum(self):
        follows = {kind: [other] for kind, other in zip("klmnop", "lmnopk")}
        kinds = {kind: ([("add", "b", 1)], None) for kind in "klmnop"}
        kinds["p"] = ([("set", "a", 50)], None)
        scheme = Scheme({"a": 3, "b": 0}, kinds, follows=follows, begins=["k"])
        self.assertEqual(greatest_document(scheme, "k", {"a": 1}), list("klmnopk"))
        self.assertEqual(greatest_document(scheme, "k", {"a": -1}), ["k"])
        self.assertEqual((greatest(scheme, "k", {"a": 1, "b": -1}), greatest(scheme, "k", {"a": 1, "b": -10})), (44, -7))
        self.assertEqual(greatest_document(scheme, "k", {"a": 1, "b": -1}), list("klmnopk"))
        self.assertIsNone(greatest(scheme, "k", {"b": 10 ** 29}))
        self.assertEqual(set(raising(scheme, "m", {"b": 10 ** 29})[1]), set("klmnop"))
        self.assertEqual(least(scheme, "k", {"a": 10 ** 29, "b": 1}), 3 * 10 ** 29 + 1)

    def test_what_is_raised_may_be_set_back(self):
        kinds = {"k": ([("add", "a", 1)], None), "m": ([("set", "a", 0)], None), "n": ([("set", "b", 9)], None)}
        scheme = Scheme({"a": 0, "b": 0}, kinds, follows={"k": ["k", "m", "n"], "m": ["n"], "n": ["k"]}, begins=["k"])
        self.assertEqual((greatest(scheme, "m", {"a": 1}), least(scheme, "m", {"a": 1})), (0, 0))
        self.assertIsNone(greatest(scheme, "n", {"a": 1}))
        self.assertEqual(greatest(scheme, "n", {"a": -1, "b": 1}), 9)
        self.assertEqual(greatest_document(scheme, "n", {"a": -1, "b": 1}), ["k", "m", "n"])

    def test_names_of_the_parameters(self):
        self.assertEqual(greatest(weights={"figure": 1}, kind="chapter", scheme=book()), 0)
        self.assertEqual(least(weights={"chapter": 2, "figure": 1}, kind="figure", scheme=book()), 3)
        self.assertEqual(greatest_document(weights={}, kind="figure", scheme=book()), ["chapter", "figure"])
        self.assertIsNone(raising(weights={}, kind="figure", scheme=book()))
        paper = bound_paper(weights={}, kind="figure", scheme=book())
        self.assertIs(check_bound(paper=paper, bound=0, weights={}, kind="figure", scheme=book()), True)

    def test_errors(self):
        kinds = {"k": ([], None), "m": ([], read_label("{a}"))}
        scheme = Scheme({"a": 0, "b": 0}, kinds, begins=["k"], follows={"m": ["k"]})
        functions = ((greatest, ()), (least, ()), (greatest_document, ()), (raising, ()), (bound_paper, ()),
                     (check_bound, (0, {})))
        for function, more in functions:
            for name in [*NO_NAMES, "a", "page"]:
                self.check_error(UnknownName, [name], function, scheme, name, {"q": None}, *more)
            self.check_error(NoDocument, ["m"], function, scheme, "m", {"q": None}, *more)
            for name in [*NO_NAMES, "k", "page"]:
                self.check_error(UnknownName, [name], function, scheme, "k", {"a": None, name: 1}, *more)
                self.check_error(UnknownName, ["c"], function, scheme, "k", {"zz": 1, "c": True, "a": 1}, *more)
            for weight in NO_INTEGERS:
                self.check_error(BadWeight, ["a"], function, scheme, "k", {"b": weight, "a": weight}, *more)
                self.check_error(BadWeight, ["b"], function, scheme, "k", {"b": weight, "a": 1}, *more)
                self.check_error(BadWeight, ["b"], function, scheme, "k", {"b": weight}, *more)


def subsets(counters):
    return [some for many in range(len(counters) + 1) for some in itertools.combinations(counters, many)]


class Reference:
    """What point 29 asks of a paper, in its own words, for a plain scheme."""

    def __init__(self, plain, kind, weights):
        self.plain, self.weights = plain, weights
        self.counted = sorted(counter for counter, weight in weights.items() if weight != 0)
        self.goal = (kind, tuple(self.counted))
        self.places = [(one, some) for one in plain["kinds"] for some in subsets(self.counted)]
        self.next = {place: self.steps(place) for place in self.places}
        self.leading = {self.goal}
        while True:
            found = {place for place in self.places if any(other in self.leading for other, _ in self.next[place])}
            if found <= self.leading:
                break
            self.leading |= found

    def steps(self, place):
        """The places to which there is a step from a place, with what it adds."""
        found = []
        for kind in follows_of(self.plain, place[0]):
            deeds = self.plain["kinds"][kind][0]
            setting = {counter for word, counter, _ in deeds if word == "set"} & set(self.counted)
            if setting & set(place[1]):
                continue
            now = values_behind(self.plain, [kind], {counter: 0 for counter in self.plain["starts"]})
            for further in subsets(sorted(setting)):
                settled = tuple(sorted([*place[1], *further]))
                found.append(((kind, settled), sum(now[counter] * self.weights[counter] for counter in settled)))
        return found

    def check(self, bound, paper):
        if not all(place in self.places for place in paper):
            return False
        needed = []
        for kind in begins_of(self.plain):
            now = values_behind(self.plain, [kind], self.plain["starts"])
            for some in subsets(self.counted):
                needed.append(((kind, some), sum(now[counter] * self.weights[counter] for counter in some)))
        for place in paper:
            needed.extend((other, paper[place] + more) for other, more in self.next[place])
        for place, number in needed:
            if place in self.leading and (place not in paper or paper[place] < number):
                return False
        return self.goal not in paper or paper[self.goal] <= bound


def some_papers(reference, paper, rng):
    """Papers that come from one by small changes."""
    yield {}
    yield {place: number + 1 for place, number in paper.items()}
    yield {place: number - 1 for place, number in paper.items()}
    for place in sorted(paper):
        others = {one: number for one, number in paper.items() if one != place}
        yield others
        yield {**paper, place: paper[place] - 1}
        yield {**paper, place: paper[place] + 1}
        yield {**paper, place: paper[place] + 10 ** 29}
        yield {**others, rng.choice(reference.places): paper[place]}
    for place in reference.places:
        if place not in paper:
            yield {**paper, place: rng.choice([-(10 ** 29), 0, 10 ** 29])}
    counted = tuple(reference.counted)
    for key in [("page", counted), ("", ()), (reference.goal[0], ("q",)), (reference.goal[0], (*counted, "zz")),
                (reference.goal[0], counted * 2), (reference.goal[0], counted[::-1])]:
        yield {**paper, key: -(10 ** 29)}


class Papers(Case):
    def test_returned_papers(self):
        rng = random.Random(29)
        many = 0
        for plain in samples():
            scheme = made(plain)
            for kind in sorted(reached_in(plain)):
                for weights in some_weights(plain, rng):
                    paper, most = bound_paper(scheme, kind, weights), greatest(scheme, kind, weights)
                    self.assertIs(paper is None, most is None)
                    if paper is None:
                        continue
                    many += 1
                    with self.subTest(plain=plain, kind=kind, weights=weights):
                        reference = Reference(plain, kind, weights)
                        for bound in (most, most + 1, most + 10 ** 29):
                            self.assertIs(check_bound(scheme, kind, weights, bound, paper), True)
                            self.assertIs(reference.check(bound, paper), True)
                        for bound in (most - 1, most - 10 ** 29):
                            self.assertIs(check_bound(scheme, kind, weights, bound, paper), False)
        self.assertGreater(many, 300)

    def test_changed_papers(self):
        rng = random.Random(30)
        let = refused = 0
        for number, plain in enumerate(samples()):
            scheme = made(plain)
            for kind in sorted(reached_in(plain)) if number % 3 == 0 else []:
                for weights in list(some_weights(plain, rng))[2:]:
                    paper, reference = bound_paper(scheme, kind, weights), Reference(plain, kind, weights)
                    if paper is None or len(reference.places) > 40:
                        continue
                    most = greatest(scheme, kind, weights)
                    for changed in some_papers(reference, paper, rng):
                        before = dict(changed)
                        for bound in (most, most + 1):
                            found = check_bound(scheme, kind, weights, bound, changed)
                            self.assertIs(found, reference.check(bound, changed), (plain, kind, weights, changed))
                            let, refused = let + found, refused + (not found)
                        self.assertEqual(changed, before)
        self.assertGreater(min(let, refused), 500)

    def test_places_that_do_not_lead_on(self):
        # Behind m there is no way to k, so what stands at places of m has no effect for k.
        kinds = {"k": ([("add", "a", 1)], None), "m": ([("add", "a", 1)], None)}
        scheme = Scheme({"a": 0}, kinds, follows={"k": ["m"], "m": ["m"]}, begins=["k", "m"])
        paper = {("k", ("a",)): 1}
        self.assertIs(check_bound(scheme, "k", {"a": 1}, 1, paper), True)
        for settled in ((), ("a",)):
            for number in (-(10 ** 29), 0, 10 ** 29):
                self.assertIs(check_bound(scheme, "k", {"a": 1}, 1, {**paper, ("m", settled): number}), True)
        self.assertIs(check_bound(scheme, "k", {"a": 1}, 1, {("k", ("a",)): 2}), False)
        self.assertIs(check_bound(scheme, "k", {"a": 1}, 2, {("k", ("a",)): 2}), True)
        self.assertIs(check_bound(scheme, "k", {"a": 1}, 1, {**paper, ("k", ()): 10 ** 29}), True)
        self.assertIs(check_bound(scheme, "k", {"a": 1}, 1, {**paper, ("k", ("b",)): 0}), False)

    def test_new_each_time(self):
        wanted = dict(bound_paper(book(), "figure", {"chapter": -1}))
        bound_paper(book(), "figure", {"chapter": -1}).clear()
        self.assertEqual(bound_paper(book(), "figure", {"chapter": -1}), wanted)

    def test_limits(self):
        rng = random.Random(31)
        for seed in range(6):
            plain = great_told(seed)
            for kind in plain["kinds"]:
                weights = {counter: rng.choice([-(10 ** 29), -1, 1, 7]) for counter in plain["starts"]}
                most = greatest(made(plain), kind, weights)
                if most is None:
                    begin, row, end = raising(made(plain), kind, weights)
                    sums = [sum_behind(plain, begin + row * times + end, weights) for times in range(3)]
                    self.assertEqual(sums[2] - sums[1], sums[1] - sums[0])
                    self.assertGreater(sums[1], sums[0])
                else:
                    paper = bound_paper(made(plain), kind, weights)
                    self.assertIs(check_bound(made(plain), kind, weights, most, paper), True)
                    self.assertIs(check_bound(made(plain), kind, weights, most - 1, paper), False)


if __name__ == "__main__":
    unittest.main()
