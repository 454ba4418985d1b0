"""Points 30 and 31: labels that fall, and gaps between them."""

import random
import unittest

from partlabels.documents import is_document, values
from partlabels.errors import NoDocument, NoLabel, UnknownName
from partlabels.labels import read_label
from partlabels.order import falling, gap
from partlabels.schemes import Scheme
from samples import (Case, NO_NAMES, all_told, begins_of, book, follows_of, great_told, labelled, long_walks, made,
                     shown_by, small_told, some_documents, values_behind)


def samples():
    yield from (small_told(seed, 2, 3, 3) for seed in range(300))
    yield from (small_told(seed) for seed in range(100))
    yield from (small_told(seed, 4, 6, 4) for seed in range(60))
    yield from all_told(24)


def numbers_in(plain, kind, document):
    """The indexes of the parts of a kind with their numbers."""
    shown, now, found = shown_by(plain, kind), dict(plain["starts"]), []
    for index, one in enumerate(document):
        now = values_behind(plain, [one], now)
        if one == kind:
            found.append((index, [now[counter] for counter in shown]))
    return found


def falls_in(plain, kind, document):
    found = [numbers for _, numbers in numbers_in(plain, kind, document)]
    return any(later < max(found[:place]) for place, later in enumerate(found) if place)


def goes_on(plain, kind, document, first, second):
    """What point 31 asks of two parts that follow one another, in its own words."""
    *others, last = shown_by(plain, kind)
    deeds = [deed for part in document[first + 1:second + 1] for deed in plain["kinds"][part][0]]
    before = values_behind(plain, document[:first + 1], plain["starts"])[last]
    behind = values_behind(plain, document[:second + 1], plain["starts"])[last]
    if any(counter in others for _, counter, _ in deeds):
        return behind == 1
    return behind == before + 1


def has_gap(plain, kind, document):
    places = [index for index, one in enumerate(document) if one == kind]
    return not all(goes_on(plain, kind, document, first, second) for first, second in zip(places, places[1:]))


def falls_anywhere(plain, kind, most):
    """Whether there is a fall in a document with values up to a number, by a search over all states."""
    shown, counters = shown_by(plain, kind), sorted(plain["starts"])
    waiting = [(None, tuple(plain["starts"][counter] for counter in counters), None)]
    seen = set(waiting)
    while waiting:
        last, numbers, kept = waiting.pop()
        for one in begins_of(plain) if last is None else follows_of(plain, last):
            now = values_behind(plain, [one], dict(zip(counters, numbers)))
            if max(now.values()) > most:
                continue
            states = [(one, tuple(now[counter] for counter in counters), kept)]
            if one == kind:
                told = tuple(now[counter] for counter in shown)
                if kept is not None and told < kept:
                    return True
                states.append((states[0][0], states[0][1], told))
            for state in states:
                if state not in seen:
                    seen.add(state)
                    waiting.append(state)
    return False


class Told(Case):
    def check_told(self, plain, kind, found):
        """Check the form of an answer, and return its document and indexes."""
        self.assertIs(type(found), tuple)
        document, first, second = found
        self.assertEqual((type(document), type(first), type(second)), (list, int, int))
        self.assertTrue(is_document(made(plain), document))
        self.assertTrue(0 <= first < second < len(document))
        self.assertEqual((document[first], document[second]), (kind, kind))
        return found

    def check_fall(self, plain, kind, found):
        document, first, second = self.check_told(plain, kind, found)
        numbers = dict(numbers_in(plain, kind, document))
        self.assertLess(numbers[second], numbers[first])

    def check_gap(self, plain, kind, found):
        document, first, second = self.check_told(plain, kind, found)
        self.assertNotIn(kind, document[first + 1:second])
        self.assertIs(goes_on(plain, kind, document, first, second), False)


class Falling(Told):
    def test_against_all_documents(self):
        never = often = 0
        for plain in samples():
            scheme = made(plain)
            documents = [*some_documents(plain, 250), *long_walks(plain, 3)]
            for kind in labelled(plain):
                found = falling(scheme, kind)
                with self.subTest(plain=plain, kind=kind):
                    if found is None:
                        never += 1
                        self.assertFalse(any(falls_in(plain, kind, document) for document in documents))
                    else:
                        often += 1
                        self.check_fall(plain, kind, found)
        self.assertGreater(min(never, often), 150)

    def test_against_all_states(self):
        never = 0
        for seed in range(800):
            plain = small_told(seed, 2, 3, 3)
            for kind in labelled(plain):
                found = falling(made(plain), kind)
                if found is not None:
                    self.check_fall(plain, kind, found)
                else:
                    never += 1
                    self.assertIs(falls_anywhere(plain, kind, 9), False, (plain, kind))
        self.assertGreater(never, 300)

    def test_far_behind(self):
        # Only what adds 1 to b again and again leads above what m sets it to.
        for more, many in ((["m"], 4), ([], 3), (["m", "k"], 4)):
            label = read_label("{a}.{c}.{b}" if many == 4 else "{b}")
            kinds = {"k": ([("add", "b", 1)], label), "m": ([("set", "b", 99)] + [("add", "b", 99)] * 5, None)}
            plain = {"starts": {"a": 3, "b": 0, "c": 5}, "kinds": kinds, "follows": None, "begins": ["k"]}
            found = falling(made(plain), "k")
            self.check_fall(plain, "k", found)
            self.assertGreater(len(found[0]), 590)
            kinds["k"] = ([], label)
            self.assertIs(falling(made(plain), "k"), None)

    def test_far_behind_with_an_earlier_number_that_must_agree(self):
        # b must go beyond 300 while a stays 7, which n alone does.
        kinds = {"k": ([], read_label("{a}.{b}")), "m": ([("set", "a", 7), ("set", "b", 99), ("add", "b", 99),
                                                         ("add", "b", 99)], None),
                 "n": ([("add", "b", 1)], None), "o": ([("add", "a", 1), ("add", "b", 60)], None)}
        follows = {"k": ["m", "n"], "m": ["k"], "n": ["k"], "o": ["o", "k"]}
        plain = {"starts": {"a": 0, "b": 0}, "kinds": kinds, "follows": follows, "begins": ["o"]}
        found = falling(made(plain), "k")
        self.check_fall(plain, "k", found)
        plain["follows"] = {**follows, "k": ["m"]}
        # Now a counts the parts of o: with seven of these, b is above what m sets it to; with more, a is.
        self.check_fall(plain, "k", falling(made(plain), "k"))
        # With up to six, both are below.
        plain["follows"] = {"k": ["m"], "m": ["k"], "o": ["p"], "p": ["q", "k"], "q": ["k"]}
        kinds["p"] = kinds["q"] = kinds["o"]
        self.assertIs(falling(made(plain), "k"), None)
        kinds["q"] = ([("add", "a", 5), ("add", "b", 99), ("add", "b", 78)], None)
        self.assertIs(falling(made(plain), "k"), None)
        kinds["q"] = ([("add", "a", 5), ("add", "b", 99), ("add", "b", 79)], None)
        self.check_fall(plain, "k", falling(made(plain), "k"))

    def test_the_first_number_outdoes_the_others(self):
        # Ahead of n the first number is less, so the second one may be greater.
        kinds = {"k": ([], read_label("{a}.{b}")), "n": ([("set", "a", 5), ("set", "b", 3)], None)}
        plain = {"starts": {"a": 0, "b": 9}, "kinds": kinds, "follows": {"k": ["n"], "n": ["k"]}, "begins": ["k"]}
        self.assertIs(falling(made(plain), "k"), None)
        for start in (5, 6):
            other = {**plain, "starts": {"a": start, "b": 9}}
            self.check_fall(other, "k", falling(made(other), "k"))
        kinds["o"] = ([("set", "a", 5), ("set", "b", 4)], None)
        other = {**plain, "follows": {"k": ["n"], "n": ["k"], "o": ["k"]}, "begins": ["k", "o"]}
        self.check_fall(other, "k", falling(made(other), "k"))
        other["kinds"] = {**kinds, "o": ([("set", "a", 4), ("set", "b", 99)], None)}
        self.assertIs(falling(made(other), "k"), None)
        other["follows"] = {"k": ["n", "o"], "n": ["k"], "o": ["k"]}
        self.check_fall(other, "k", falling(made(other), "k"))

    def test_some_shown_counters(self):
        label = read_label("{a}.{b}/{c}:{d:a}")
        kinds = {"k": ([("add", "d", 1)], label), "l": ([("add", "c", 1), ("set", "d", 0)], None),
                 "m": ([("add", "b", 1), ("set", "c", 0), ("set", "d", 0)], None),
                 "n": ([("add", "a", 1), ("set", "b", 0), ("set", "c", 0), ("set", "d", 0)], None)}
        plain = {"starts": {"a": 0, "b": 0, "c": 0, "d": 0}, "kinds": kinds, "follows": None, "begins": None}
        self.assertIs(falling(made(plain), "k"), None)
        for kind in "lmn":
            deeds, _ = kinds[kind]
            for place in range(len(deeds)):
                # What sets a counter but adds to none ahead of it lets it fall.
                changed = {**plain, "kinds": {**kinds, kind: (deeds[:place] + deeds[place + 1:], None)}}
                found = falling(made(changed), "k")
                if place == 0:
                    self.check_fall(changed, "k", found)
                else:
                    self.assertIs(found, None)

    def test_names_of_the_parameters(self):
        self.assertIs(falling(kind="figure", scheme=book()), None)
        self.assertIs(gap(kind="figure", scheme=book()), None)


class Gaps(Told):
    def test_against_all_documents(self):
        never = often = 0
        for plain in [*samples(), *self.counting()]:
            scheme = made(plain)
            documents = [*some_documents(plain, 250), *long_walks(plain, 3, 30)]
            for kind in labelled(plain):
                found = gap(scheme, kind)
                with self.subTest(plain=plain, kind=kind):
                    if found is None:
                        never += 1
                        self.assertFalse(any(has_gap(plain, kind, document) for document in documents))
                    else:
                        often += 1
                        self.check_gap(plain, kind, found)
        self.assertGreater(min(never, often), 100)

    def counting(self):
        """Schemes whose labels mostly go on, one by one."""
        rng = random.Random(31)
        for _ in range(150):
            label = read_label(rng.choice(["{b}", "{a}.{b}", "{c}.{a}.{b}"]))
            kinds = {"k": ([("add", "b", 1)], label), "l": ([("add", "a", 1), ("set", "b", 0)], None),
                     "m": ([("set", "b", rng.choice([0, 0, 1]))], None), "n": ([("add", "c", 1), ("set", "b", 0)], None)}
            follows = {kind: [other for other in kinds if rng.random() < 0.4] for kind in kinds}
            yield {"starts": {"a": 0, "b": rng.randint(0, 1), "c": 0}, "kinds": kinds, "follows": follows,
                   "begins": [kind for kind in kinds if rng.random() < 0.5]}

    def test_the_last_counter(self):
        for deeds, other, wanted in (([("add", "b", 1)], [], True), ([("add", "b", 2)], [], False), ([], [], False),
                                     ([("set", "b", 5)], [], False), ([("add", "b", 1)], [("add", "b", 1)], False),
                                     ([("add", "b", 1)], [("set", "b", 3)], False),
                                     ([("add", "b", 1)], [("add", "a", 1), ("set", "b", 0)], True),
                                     ([("add", "b", 1)], [("set", "a", 4), ("set", "b", 0)], True),
                                     ([("add", "b", 1)], [("add", "a", 1), ("set", "b", 1)], False),
                                     ([("add", "b", 1)], [("add", "a", 1)], False),
                                     ([("add", "b", 1)], [("set", "a", 0)], False),
                                     ([("add", "b", 1), ("add", "a", 1), ("set", "b", 1)], [], True)):
            kinds = {"k": (deeds, read_label("{a}.{b}")), "m": (other, None)}
            follows = {"k": ["k", "m"], "m": ["k"]}
            plain = {"starts": {"a": 0, "b": 0, "c": 0}, "kinds": kinds, "follows": follows, "begins": ["k"]}
            found = gap(made(plain), "k")
            self.assertIs(found is None, wanted, (deeds, other))
            if found is not None:
                self.check_gap(plain, "k", found)

    def test_one_that_starts_elsewhere(self):
        # The last counter keeps its start: that goes on only if this is 1 and another counter changes.
        for start, deeds, wanted in ((1, [("add", "a", 1)], True), (1, [("set", "a", 1)], True), (1, [], False),
                                     (0, [("add", "a", 1)], False), (2, [("add", "a", 1)], False)):
            plain = {"starts": {"a": 0, "b": start}, "kinds": {"k": (deeds, read_label("{a}.{b}"))},
                     "follows": None, "begins": None}
            found = gap(made(plain), "k")
            self.assertIs(found is None, wanted)
            if found is not None:
                self.check_gap(plain, "k", found)
        # It is 1 but for documents that begin with some parts of m.
        kinds = {"k": ([("add", "a", 1)], read_label("{a}.{b}")), "m": ([("add", "c", 1)], None),
                 "n": ([("set", "b", 5)], None)}
        follows = {"k": ["k"], "m": ["m", "k", "n"], "n": ["k"]}
        plain = {"starts": {"a": 0, "b": 1, "c": 0}, "kinds": kinds, "follows": follows, "begins": ["m"]}
        self.check_gap(plain, "k", gap(made(plain), "k"))
        plain["follows"] = {**follows, "m": ["m", "k"]}
        self.assertIs(gap(made(plain), "k"), None)

    def test_a_label_with_one_counter(self):
        plain = {"starts": {"b": 4}, "kinds": {"k": ([("add", "b", 1)], read_label("{b}")), "m": ([], None)},
                 "follows": None, "begins": None}
        self.assertIs(gap(made(plain), "k"), None)
        plain["kinds"]["m"] = ([("set", "b", 0)], None)
        self.check_gap(plain, "k", gap(made(plain), "k"))
        single = {**plain, "follows": {"k": ["m"]}}
        self.assertEqual((gap(made(single), "k"), falling(made(single), "k")), (None, None))


class Errors(Case):
    def test_errors(self):
        follows = {"k": ["k"], "m": ["k"], "n": ["n"]}
        scheme = Scheme({"a": 0}, {"k": ([], None), "m": ([], read_label("{a}")), "n": ([], None)}, begins=["k"],
                        follows=follows)
        for function in (falling, gap):
            for name in [*NO_NAMES, "a", "page"]:
                self.check_error(UnknownName, [name], function, scheme, name)
            self.check_error(NoDocument, ["m"], function, scheme, "m")
            self.check_error(NoDocument, ["n"], function, scheme, "n")
            self.check_error(NoLabel, ["k"], function, scheme, "k")


class Limits(Told):
    def test_limits(self):
        for seed in range(8):
            plain = great_told(seed)
            for kind in labelled(plain):
                for function, check in ((falling, self.check_fall), (gap, self.check_gap)):
                    found = function(made(plain), kind)
                    if found is not None:
                        check(plain, kind, found)

    def test_the_told_values(self):
        loose = book().with_deeds("chapter", [("set", "figure", 0)])
        document, first, second = falling(loose, "figure")
        self.assertLess(values(loose, document[:second + 1])["figure"], values(loose, document[:first + 1])["figure"])


if __name__ == "__main__":
    unittest.main()
