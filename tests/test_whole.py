"""What the document promises over the whole program: answers agree, whatever way a scheme was made and asked."""

import copy
import importlib
import itertools
import random
import unittest

from partlabels.alike import alike, alike_paper, check_alike, parting
from partlabels.bounds import bound_paper, check_bound, greatest, greatest_document, least, raising
from partlabels.documents import (documents, is_document, labels, long_label, long_values, reached, shortest_document,
                                  values)
from partlabels.edits import exchange_case, put_in_case, shaken, shields, take_out_case
from partlabels.equations import equations, is_equation, remainders, spanning
from partlabels.errors import NoDocument, NoLabel, PartError
from partlabels.labels import Label
from partlabels.manuscripts import Manuscript
from partlabels.order import falling, gap
from partlabels.schemes import Scheme
from partlabels.schemetexts import read_scheme, scheme_text
from partlabels.shortening import lean, needless_deeds
from partlabels.twice import check_once, once_paper, twice
from samples import Case, NAMES, all_told, made, small_told, walk


def answer(function, *passed, **named):
    """What a call returns, or its error with its attributes."""
    try:
        return function(*passed, **named)
    except PartError as error:
        return type(error).__name__, vars(error)


def asked(scheme):
    """Calls of functions about one scheme: each function with its further arguments, by their names."""
    kinds, counters = [*scheme.kinds(), "page"], scheme.counters()
    yield from ((function, {}) for function in (reached, needless_deeds, lean, scheme_text))
    for kind in kinds:
        for function in (shortest_document, equations, spanning, twice, once_paper, falling, gap, shaken):
            yield function, {"kind": kind}
        yield check_once, {"kind": kind, "paper": [(kind, ("added",))]}
        yield is_equation, {"kind": kind, "row": (*[1] * len(counters), -3)}
        for counter in counters:
            yield remainders, {"kind": kind, "counter": counter, "divisor": 5}
            for weights in ({counter: 1}, {counter: -2, counters[0]: 3}):
                for function in (greatest, least, greatest_document, raising, bound_paper):
                    yield function, {"kind": kind, "weights": weights}
                yield check_bound, {"kind": kind, "weights": weights, "bound": 9, "paper": {}}
        for later in kinds[::2]:
            for function in (put_in_case, take_out_case, shields):
                yield function, {"kind": kind, "later": later}
            yield exchange_case, {"kind": kind, "other": kinds[0], "later": later}


def answers(scheme):
    """All answers about a scheme, as texts."""
    found = [(function.__name__, sorted(named), str(plain(answer(function, scheme, **named))))
             for function, named in asked(scheme)]
    for length in range(3):
        found.append(("documents", length, str(list(documents(scheme, length)))))
    return found


def plain(value):
    """A value in which schemes and labels are texts, and dicts have their keys in order."""
    if isinstance(value, Scheme):
        return scheme_text(value)
    if isinstance(value, Label):
        return value.text()
    if isinstance(value, dict):
        return sorted((key, plain(item)) for key, item in value.items())
    return value


def samples():
    yield from (small_told(seed) for seed in range(20))
    yield from (small_told(seed, 4, 5, 4) for seed in range(12))
    yield from all_told(20)


class Made(Case):
    def test_texts_that_are_read(self):
        for told in samples():
            scheme = made(told)
            again = read_scheme(scheme_text(scheme))
            self.assertEqual(again, scheme)
            self.assertEqual(answers(again), answers(scheme))
            self.assertEqual((alike(scheme, again), alike(again, scheme)), (True, True))
            self.assertIs(check_alike(scheme, again, alike_paper(again, scheme)), True)

    def test_changed_schemes(self):
        rng = random.Random(13)
        for told in samples():
            scheme = made(told)
            before = answers(scheme)
            counter, kind = rng.choice(sorted(told["starts"])), rng.choice(sorted(told["kinds"]))
            deeds = [("set", counter, 4), ("add", counter, 1)]
            label = Label("New ", [(counter, "letters")])
            changed = scheme.with_start(counter, 8).with_deeds(kind, deeds).with_label(kind, label)
            anew = made({**told, "starts": {**told["starts"], counter: 8},
                         "kinds": {**told["kinds"], kind: (deeds, label)}})
            self.assertEqual(changed, anew)
            self.assertEqual(answers(changed), answers(anew))
            # The one that was changed still tells what it told.
            self.assertEqual(answers(scheme), before)

    def test_dicts_and_lists_in_other_orders(self):
        rng = random.Random(14)
        for told in samples():
            def mixed(table):
                return dict(sorted(table.items(), key=lambda item: rng.random()))
            other = {"starts": mixed(told["starts"]), "kinds": mixed(told["kinds"]), "begins": told["begins"],
                     "follows": told["follows"]}
            if told["begins"] is not None:
                other["begins"] = tuple(told["begins"][::-1])
            if told["follows"] is not None:
                other["follows"] = mixed({kind: tuple(kinds[::-1]) for kind, kinds in told["follows"].items()})
            other["kinds"] = {kind: (tuple(deeds), label) for kind, (deeds, label) in other["kinds"].items()}
            self.assertEqual(answers(made(other)), answers(made(told)))

    def test_the_arguments_stay(self):
        for told in samples():
            before = copy.deepcopy({key: told[key] for key in ("starts", "follows", "begins")})
            deeds = {kind: list(told["kinds"][kind][0]) for kind in told["kinds"]}
            answers(made(told))
            self.assertEqual({key: told[key] for key in before}, before)
            self.assertEqual({kind: told["kinds"][kind][0] for kind in told["kinds"]}, deeds)

    def test_other_names(self):
        rng = random.Random(15)
        for told in samples():
            counters = dict(zip(told["starts"], rng.sample(NAMES, len(told["starts"]))))
            kinds = dict(zip(told["kinds"], rng.sample(NAMES, len(told["kinds"]))))
            scheme, other = made(told), made(self.renamed(told, counters, kinds))
            self.check_renamed(scheme, other, counters, kinds)

    def renamed(self, told, counters, kinds):
        parts = {}
        for kind, (deeds, label) in told["kinds"].items():
            if label is not None:
                label = Label(label.head, [(counters[name], form) for name, form in label.shown], label.joints)
            parts[kinds[kind]] = ([(word, counters[name], number) for word, name, number in deeds], label)
        follows, begins = told["follows"], told["begins"]
        return {"starts": {counters[name]: start for name, start in told["starts"].items()}, "kinds": parts,
                "follows": follows and {kinds[kind]: [kinds[other] for other in follows[kind]] for kind in follows},
                "begins": begins if begins is None else [kinds[kind] for kind in begins]}

    def check_renamed(self, scheme, other, counters, kinds):
        self.assertEqual(sorted(kinds[kind] for kind in reached(scheme)), reached(other))
        self.assertEqual(sorted((kinds[kind], index) for kind, index in needless_deeds(scheme)), needless_deeds(other))
        for kind in scheme.kinds():
            self.assertEqual(sorted(kinds[later] for later in shaken(scheme, kind)), shaken(other, kinds[kind]))
            for later in scheme.kinds():
                self.assertEqual(sorted(kinds[one] for one in shields(scheme, kind, later)),
                                 shields(other, kinds[kind], kinds[later]))
                self.assertIs(exchange_case(scheme, kind, later, kind) is None,
                              exchange_case(other, kinds[kind], kinds[later], kinds[kind]) is None)
            if kind not in reached(scheme):
                continue
            self.assertEqual(len(shortest_document(scheme, kind)), len(shortest_document(other, kinds[kind])))
            self.assertEqual(len(equations(scheme, kind)), len(equations(other, kinds[kind])))
            for counter in scheme.counters():
                renamed = {counters[counter]: -2}
                self.assertEqual(greatest(scheme, kind, {counter: -2}), greatest(other, kinds[kind], renamed))
                self.assertEqual(least(scheme, kind, {counter: -2}), least(other, kinds[kind], renamed))
                self.assertEqual(remainders(scheme, kind, counter, 7),
                                 remainders(other, kinds[kind], counters[counter], 7))
            if scheme.label(kind) is not None:
                for function in (twice, falling, gap, once_paper):
                    self.assertIs(function(scheme, kind) is None, function(other, kinds[kind]) is None)


class Asked(Case):
    def test_arguments_by_name_in_any_order(self):
        rng = random.Random(4)
        for told in samples():
            scheme = made(told)
            for function, named in asked(scheme):
                everything = {"scheme": scheme, **named}
                mixed = dict(sorted(everything.items(), key=lambda item: rng.random()))
                self.assertEqual(plain(answer(function, **mixed)), plain(answer(function, scheme, *named.values())))
            for function in (alike, parting, alike_paper):
                self.assertEqual(answer(function, other=scheme, one=scheme), answer(function, scheme, scheme))

    def test_results_are_new_each_time(self):
        for told in itertools.islice(samples(), 25):
            scheme = made(told)
            before = answers(scheme)
            for function, named in asked(scheme):
                found = answer(function, scheme, **named)
                for item in [found, *(found if isinstance(found, (tuple, list)) else [])]:
                    if isinstance(item, (list, dict)):
                        item.clear()
            self.assertEqual(answers(scheme), before)

    def test_tuples_instead_of_lists(self):
        for told in samples():
            scheme = made(told)
            document = walk(told, 4, 20)
            self.assertEqual((is_document(scheme, tuple(document)), values(scheme, tuple(document)),
                              labels(scheme, tuple(document))), (True, values(scheme, document), labels(scheme, document)))
            for kind in reached(scheme):
                if scheme.label(kind) is not None and once_paper(scheme, kind) is not None:
                    self.assertIs(check_once(scheme, kind, tuple(once_paper(scheme, kind))), True)
            if document:
                blocks = ((tuple(document[:20]), 1),)
                self.assertEqual(long_values(scheme, blocks), values(scheme, document))
                self.assertEqual(long_label(scheme, blocks), labels(scheme, document)[-1])

    def test_modules(self):
        # Each file can be imported by itself.
        for name in ("actions alike bounds documents edits equations errors formats labels manuscripts names order schemes "
                     "schemetexts shortening twice").split():
            self.assertIsNotNone(importlib.import_module(f"partlabels.{name}"))


class Always(Case):
    def told(self, scheme):
        """What is told for all documents, found once for each reached kind."""
        found = {}
        for kind in reached(scheme):
            one = {"equations": equations(scheme, kind)}
            for counter in scheme.counters():
                one[counter] = (greatest(scheme, kind, {counter: 1}), least(scheme, kind, {counter: 1}),
                                remainders(scheme, kind, counter, 11))
            for function in (twice, falling, gap):
                try:
                    one[function] = function(scheme, kind)
                except NoLabel:
                    one[function] = "no label"
            found[kind] = one
        return found

    def test_documents_of_up_to_a_hundred_parts(self):
        for number, told in enumerate(samples()):
            scheme = made(told)
            found, thin = self.told(scheme), lean(scheme)
            for seed in range(4):
                document = walk(told, f"whole {number} {seed}", 100 - 30 * seed)
                with self.subTest(told=told, document=document):
                    self.check_document(scheme, found, document)
                    self.assertEqual(labels(thin, document), labels(scheme, document))

    def check_document(self, scheme, found, document):
        now, texts = {counter: scheme.start(counter) for counter in scheme.counters()}, labels(scheme, document)
        seen, latest = {}, {}
        for index, kind in enumerate(document):
            now = values(scheme, document[:index + 1])
            one = found[kind]
            point = [*[now[counter] for counter in scheme.counters()], 1]
            for row in one["equations"]:
                self.assertEqual(sum(number * other for number, other in zip(row, point)), 0)
            for counter in scheme.counters():
                most, low, rests = one[counter]
                self.assertTrue(most is None or now[counter] <= most)
                self.assertGreaterEqual(now[counter], low)
                self.assertIn(now[counter] % 11, rests)
            if one[twice] is None:
                self.assertNotIn((kind, texts[index]), seen)
            seen[(kind, texts[index])] = True
            if scheme.label(kind) is not None:
                numbers = [now[counter] for counter, _ in scheme.label(kind).shown]
                if one[falling] is None:
                    self.assertGreaterEqual(numbers, latest.get(kind, numbers))
                latest[kind] = max(numbers, latest.get(kind, numbers))

    def test_edits_of_documents(self):
        rng = random.Random(34)
        for told in samples():
            scheme = made(told)
            let = {kind: shaken(scheme, kind) for kind in scheme.kinds()}
            document = walk(told, 34, 40)
            manuscript = Manuscript(scheme)
            for index, kind in enumerate(document):
                manuscript.put(index, kind, key=None if index > 25 else chr(97 + index))
            for _ in range(30):
                kind, index = rng.choice(scheme.kinds()), rng.randint(0, len(document))
                before = manuscript.labels()
                if isinstance(answer(manuscript.put, index, kind), tuple):
                    continue
                behind = manuscript.labels()
                for at, later in enumerate(document):
                    if before[at] != behind[at + (at >= index)]:
                        self.assertGreaterEqual(at, index)
                        self.assertIn(later, let[kind])
                manuscript.undo()
                self.assertEqual(manuscript.labels(), before)

    def test_kinds_without_documents(self):
        for told in samples():
            scheme = made(told)
            for kind in scheme.kinds():
                if kind not in reached(scheme):
                    for function in (equations, spanning, twice, once_paper, falling, gap, shortest_document):
                        self.check_error(NoDocument, [kind], function, scheme, kind)


if __name__ == "__main__":
    unittest.main()
