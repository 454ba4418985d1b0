"""Schemes at the limits of point 2: each function gives its answer there, in a time that is told."""

import random
import time
import unittest

from partlabels.alike import alike, alike_paper, check_alike, parting
from partlabels.bounds import bound_paper, check_bound, greatest, greatest_document, least, raising
from partlabels.edits import exchange_case, put_in_case, shaken, shields, take_out_case
from partlabels.equations import against_equation, equations, is_equation, remainders, spanning
from partlabels.labels import Label
from partlabels.manuscripts import Manuscript
from partlabels.order import falling, gap
from partlabels.schemes import Scheme
from partlabels.schemetexts import read_scheme, scheme_text
from partlabels.shortening import lean, needless_deeds
from partlabels.twice import check_once, once_paper, twice
from samples import great_told, made

SECONDS = 20


def growing(seed):
    """A scheme at the limits in which most counters only grow, so that all documents count."""
    rng = random.Random(f"growing {seed}")
    counters, kinds = ["a", "b", "c", "d"], ["k", "l", "m", "n", "o", "p"]
    label = Label("Part ", [(counter, "figures") for counter in rng.sample(counters, 4)], [".", ".", "."])
    parts = {kind: ([("add", rng.choice(counters), rng.randint(90, 99)) for _ in range(6)], label) for kind in kinds}
    for kind in kinds[:seed % 6]:
        parts[kind] = ([*parts[kind][0][:5], ("set", counters[seed % 4], rng.randint(0, 99))], label)
    return Scheme({counter: rng.randint(90, 99) for counter in counters}, parts)


def stepwise(seed):
    """A scheme at the limits in which each kind sets some counters, so that there are many places."""
    rng = random.Random(f"stepwise {seed}")
    counters, kinds = ["a", "b", "c", "d"], ["k", "l", "m", "n", "o", "p"]
    parts = {}
    for number, kind in enumerate(kinds):
        label = Label("", [(counter, "letters") for counter in rng.sample(counters, 4)], [":", ":", ":"])
        deeds = [("set", counters[number % 4], rng.randint(0, 99))]
        deeds.extend(("add", rng.choice(counters), rng.randint(1, 99)) for _ in range(5))
        parts[kind] = (deeds, label)
    return Scheme({counter: rng.randint(0, 99) for counter in counters}, parts)


def schemes():
    for seed in range(4):
        yield made(great_told(seed))
        yield growing(seed)
        yield stepwise(seed)


class Limits(unittest.TestCase):
    def check_times(self, name, asked):
        """Check that the answers come in time, and tell in how much."""
        most = 0
        for scheme in schemes():
            for call in asked(scheme):
                begun = time.perf_counter()
                call()
                most = max(most, time.perf_counter() - begun)
        print(f"{name}: {most:.3f} seconds at most for one scheme and kind", flush=True)
        self.assertLess(most, SECONDS)

    def test_equations(self):
        def asked(scheme):
            for kind in scheme.kinds():
                yield lambda: equations(scheme, kind)
                yield lambda: spanning(scheme, kind)
                for row in (*equations(scheme, kind), (10 ** 30, -1, 1, 0, 1)):
                    yield lambda: (is_equation(scheme, kind, row), against_equation(scheme, kind, row))
                for counter in scheme.counters():
                    yield lambda: remainders(scheme, kind, counter, 12)
        self.check_times("equations", asked)

    def test_alike(self):
        def asked(scheme):
            kind = scheme.kinds()[-1]
            for other in (scheme, scheme.with_deeds(kind, scheme.deeds(kind)[1:])):
                yield lambda: (alike(scheme, other), parting(scheme, other))
                yield lambda: alike_paper(scheme, other)
            paper = alike_paper(scheme, scheme)
            yield lambda: self.assertIs(check_alike(scheme, scheme, paper), True)
        self.check_times("alike", asked)

    def test_twice(self):
        def asked(scheme):
            for kind in scheme.kinds():
                yield lambda: twice(scheme, kind)
                paper = once_paper(scheme, kind)
                yield lambda: check_once(scheme, kind, paper or [])
        self.check_times("twice", asked)

    def test_bounds(self):
        rng = random.Random(28)

        def asked(scheme):
            for kind in scheme.kinds():
                for signs in ((1,), (-1,), (-1, 1)):
                    weights = {counter: rng.choice(signs) * rng.randint(1, 10 ** 30) for counter in scheme.counters()}
                    yield lambda: (greatest(scheme, kind, weights), least(scheme, kind, weights))
                    yield lambda: greatest_document(scheme, kind, weights)
                    yield lambda: raising(scheme, kind, weights)
                    paper = bound_paper(scheme, kind, weights)
                    yield lambda: check_bound(scheme, kind, weights, 0, paper or {})
        self.check_times("bounds", asked)

    def test_order(self):
        def asked(scheme):
            for kind in scheme.kinds():
                yield lambda: falling(scheme, kind)
                yield lambda: gap(scheme, kind)
        self.check_times("order", asked)

    def test_edits(self):
        def asked(scheme):
            for kind in scheme.kinds():
                yield lambda: shaken(scheme, kind)
                for later in scheme.kinds():
                    yield lambda: (put_in_case(scheme, kind, later), take_out_case(scheme, kind, later))
                    yield lambda: shields(scheme, kind, later)
                    yield lambda: [exchange_case(scheme, kind, other, later) for other in scheme.kinds()]
        self.check_times("edits", asked)

    def test_shortening(self):
        def asked(scheme):
            yield lambda: needless_deeds(scheme)
            yield lambda: lean(scheme)
            for kind in scheme.kinds()[:5]:
                scheme = scheme.with_label(kind, None)
            yield lambda: needless_deeds(scheme)
            yield lambda: lean(scheme)
        self.check_times("shortening", asked)

    def test_manuscripts(self):
        def asked(scheme):
            manuscript = Manuscript(scheme)
            kinds = scheme.kinds()
            yield lambda: [manuscript.tried(lambda one: one.put(0, kind)) for kind in scheme.beginners()]

            def fill():
                for index in range(100):
                    let = [kind for kind in kinds if index == 0 or scheme.may_follow(manuscript.document()[-1], kind)]
                    manuscript.put(index, let[index % len(let)] if index else scheme.beginners()[0])
            yield fill
            yield lambda: [manuscript.labels(), manuscript.changed(), [manuscript.undo() for _ in range(50)]]
        self.check_times("manuscripts", asked)

    def test_texts(self):
        def asked(scheme):
            yield lambda: self.assertEqual(read_scheme(scheme_text(scheme)), scheme)
        self.check_times("texts", asked)


if __name__ == "__main__":
    unittest.main()
