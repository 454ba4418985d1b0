"""Points 2, 4, 11, 12 and 13: making schemes, asking them, and changed schemes."""

import copy
import inspect
import itertools
import unittest

from partlabels.errors import BadCount, BadDeed, BadLabel, BadName, BadNumber, UnknownName
from partlabels.labels import Label, read_label
from partlabels.schemes import Scheme
from samples import (Case, NAMES, NO_DEEDS, NO_INTEGERS, NO_LABELS, NO_NAMES, all_told, begins_of, book, follows_of,
                     made)

NO_STARTS = [*NO_INTEGERS, -1, 100, 10 ** 29, -(10 ** 29)]
SEVEN = ["a", "b", "c", "d", "e", "f", "g"]


def plain_scheme(**changes):
    """The arguments of a scheme with two counters and three kinds, some of them exchanged."""
    plain = {"starts": {"a": 0, "b": 1},
             "kinds": {"k": ([], None), "m": ([("add", "a", 1)], read_label("{a}")), "n": ([("set", "b", 0)], None)},
             "follows": {"k": ["m"], "n": ["k", "n"]}, "begins": ["k", "m"]}
    return {**plain, **changes}


def state(scheme):
    """All that a scheme answers."""
    kinds = scheme.kinds()
    return [scheme.counters(), kinds, [scheme.start(counter) for counter in scheme.counters()],
            [(scheme.deeds(kind), scheme.label(kind), scheme.followers(kind)) for kind in kinds], scheme.beginners(),
            [scheme.may_begin(kind) for kind in kinds],
            [scheme.may_follow(kind, other) for kind in kinds for other in kinds]]


class Asking(Case):
    def test_all_questions(self):
        for plain in all_told():
            scheme = made(plain)
            kinds = sorted(plain["kinds"])
            with self.subTest(plain=plain):
                self.assertEqual(scheme.counters(), sorted(plain["starts"]))
                self.assertEqual(scheme.kinds(), kinds)
                self.assertEqual(scheme.beginners(), begins_of(plain))
                self.assertEqual({name: scheme.start(name) for name in scheme.counters()}, plain["starts"])
                for kind in kinds:
                    self.assertEqual(scheme.deeds(kind), plain["kinds"][kind][0])
                    self.assertEqual(scheme.label(kind), plain["kinds"][kind][1])
                    self.assertEqual(scheme.followers(kind), follows_of(plain, kind))
                    self.assertIs(scheme.may_begin(kind), kind in begins_of(plain))
                    for other in kinds:
                        self.assertIs(scheme.may_follow(kind, other), other in follows_of(plain, kind))

    def test_kinds_of_values(self):
        for plain in all_told(24):
            scheme = made(plain)
            kind = scheme.kinds()[0]
            for found in (scheme.counters(), scheme.kinds(), scheme.deeds(kind), scheme.followers(kind),
                          scheme.beginners()):
                self.assertIs(type(found), list)
            self.assertEqual({type(deed) for kind in scheme.kinds() for deed in scheme.deeds(kind)} - {tuple}, set())
            self.assertIs(type(scheme.start(scheme.counters()[0])), int)

    def test_lists_are_new_each_time(self):
        for plain in all_told(24):
            scheme = made(plain)
            before = copy.deepcopy(state(scheme))
            for kind in scheme.kinds():
                for ask in (scheme.counters, scheme.kinds, scheme.beginners, lambda: scheme.deeds(kind),
                            lambda: scheme.followers(kind)):
                    found = ask()
                    found.append("more")
                    found.reverse()
                    self.assertNotEqual(ask(), found)
                    found.clear()
            self.assertEqual(state(scheme), before)

    def test_changing_the_arguments_has_no_effect(self):
        for plain in all_told(48):
            scheme = made(plain)
            before = copy.deepcopy(state(scheme))
            for counter in plain["starts"]:
                plain["starts"][counter] = 50
            plain["starts"]["q"] = 3
            for kind in list(plain["kinds"]):
                plain["kinds"][kind][0].append(("set", "q", 7))
                plain["kinds"][kind][0].reverse()
                plain["kinds"][kind] = ([], None)
            plain["kinds"]["q"] = ([], None)
            if plain["follows"] is not None:
                for kind in plain["follows"]:
                    plain["follows"][kind].append("q")
                plain["follows"].clear()
            if plain["begins"] is not None:
                plain["begins"].append("q")
            self.assertEqual(state(scheme), before)

    def test_the_arguments_stay(self):
        for plain in all_told(48):
            before = copy.deepcopy(plain)
            made(plain)
            self.assertEqual(plain, before)
            self.assertEqual(list(plain["kinds"]), list(before["kinds"]))

    def test_lists_and_tuples(self):
        for plain in all_told(48):
            other = {"starts": plain["starts"],
                     "kinds": {kind: (tuple(deeds), label) for kind, (deeds, label) in plain["kinds"].items()},
                     "follows": None, "begins": None}
            if plain["follows"] is not None:
                other["follows"] = {kind: tuple(names) for kind, names in plain["follows"].items()}
            if plain["begins"] is not None:
                other["begins"] = tuple(plain["begins"])
            self.assertEqual(made(plain), made(other))
            self.assertEqual(state(made(plain)), state(made(other)))

    def test_defaults(self):
        scheme = Scheme({"a": 0}, {"m": ([], None), "k": ([], None)})
        self.assertEqual((scheme.beginners(), scheme.followers("k"), scheme.followers("m")), (["k", "m"],) * 3)
        self.assertEqual(scheme, Scheme({"a": 0}, {"k": ([], None), "m": ([], None)}, follows=None, begins=None))
        none = Scheme({"a": 0}, {"m": ([], None), "k": ([], None)}, follows={}, begins=[])
        self.assertEqual((none.beginners(), none.followers("k"), none.followers("m")), ([], [], []))
        self.assertEqual((none.may_begin("k"), none.may_follow("k", "m")), (False, False))
        one = Scheme({"a": 0}, {"m": ([], None), "k": ([], None)}, follows={"m": ["m", "k", "m"]}, begins=("m", "m"))
        self.assertEqual((one.beginners(), one.followers("k"), one.followers("m")), (["m"], [], ["k", "m"]))

    def test_a_counter_and_a_kind_of_one_name(self):
        scheme = Scheme({"a": 3}, {"a": ([("add", "a", 2)], None)})
        self.assertEqual((scheme.start("a"), scheme.deeds("a"), scheme.may_follow("a", "a")),
                         (3, [("add", "a", 2)], True))

    def test_names_of_the_parameters(self):
        kinds = list(inspect.signature(Scheme).parameters.values())
        self.assertEqual([kind.name for kind in kinds], ["starts", "kinds", "follows", "begins"])
        self.assertEqual([kind.kind for kind in kinds[2:]], [inspect.Parameter.KEYWORD_ONLY] * 2)
        with self.assertRaises(TypeError):
            Scheme({"a": 0}, {"k": ([], None)}, None)
        scheme = Scheme(kinds={"k": ([], None)}, begins=["k"], starts={"a": 4}, follows={"k": []})
        self.assertEqual(scheme.start(counter="a"), 4)
        self.assertEqual((scheme.deeds(kind="k"), scheme.label(kind="k"), scheme.followers(kind="k")), ([], None, []))
        self.assertEqual((scheme.may_begin(kind="k"), scheme.may_follow(other="k", kind="k")), (True, False))
        self.assertEqual(scheme.with_start(start=9, counter="a").start("a"), 9)
        self.assertEqual(scheme.with_deeds(deeds=[("set", "a", 0)], kind="k").deeds("k"), [("set", "a", 0)])
        self.assertEqual(scheme.with_label(label=read_label("{a}"), kind="k").label("k"), read_label("{a}"))

    def test_unknown_names(self):
        for plain in all_told(24):
            scheme = made(plain)
            kind = scheme.kinds()[0]
            for name in [*NO_NAMES, *NAMES, "counters"]:
                if name not in plain["starts"]:
                    self.check_error(UnknownName, [name], scheme.start, name)
                if name not in plain["kinds"]:
                    for ask in (scheme.deeds, scheme.label, scheme.followers, scheme.may_begin):
                        self.check_error(UnknownName, [name], ask, name)
                    self.check_error(UnknownName, [name], scheme.may_follow, name, kind)
                    self.check_error(UnknownName, [name], scheme.may_follow, kind, name)
                    self.check_error(UnknownName, [name], scheme.may_follow, name, "none")


class Equal(Case):
    def test_equal(self):
        for plain in all_told():
            one, other = made(plain), made(copy.deepcopy(plain))
            self.assertIs(one == other, True)
            self.assertIs(one != other, False)
            turned = {"starts": dict(reversed(plain["starts"].items())),
                      "kinds": dict(reversed(plain["kinds"].items())),
                      "follows": {kind: follows_of(plain, kind)[::-1] for kind in plain["kinds"]},
                      "begins": begins_of(plain)[::-1] * 2}
            self.assertIs(one == made(turned), True)

    def test_unequal(self):
        found = [plain_scheme(), plain_scheme(starts={"a": 0, "b": 2}), plain_scheme(starts={"a": 0, "b": 1, "c": 0}),
                 plain_scheme(begins=["k"]), plain_scheme(begins=[]), plain_scheme(begins=None),
                 plain_scheme(follows={"k": ["m"], "n": ["k"]}), plain_scheme(follows={"k": ["m"], "m": ["k", "n"]}),
                 plain_scheme(follows={}), plain_scheme(follows=None)]
        kinds = found[0]["kinds"]
        for kind, part in (("o", ([], None)), ("k", ([("add", "a", 1)], None)), ("m", ([("set", "a", 1)], None)),
                           ("m", ([("add", "a", 1)], None)), ("m", ([("add", "a", 1)], read_label("{a:a}"))),
                           ("m", ([("add", "a", 1)], read_label("{b}"))), ("m", ([], read_label("{a}"))),
                           ("m", ([("add", "a", 2)], read_label("{a}"))),
                           ("m", ([("add", "a", 1), ("add", "b", 1)], read_label("{a}"))),
                           ("m", ([("add", "b", 1), ("add", "a", 1)], read_label("{a}"))),
                           ("m", ([("add", "b", 1)], read_label("{a}")))):
            found.append(plain_scheme(kinds={**kinds, kind: part}))
        schemes = [made(plain) for plain in found]
        for one, other in itertools.product(range(len(schemes)), repeat=2):
            with self.subTest(one=one, other=other):
                self.assertIs(schemes[one] == schemes[other], one == other)
                self.assertIs(schemes[one] != schemes[other], one != other)

    def test_other_values(self):
        scheme = made(plain_scheme())
        for value in (None, True, 0, "", "a", [], (), {}, scheme.kinds(), read_label("{a}"), Scheme, object()):
            self.assertIs(scheme == value, False)
            self.assertIs(value == scheme, False)
            self.assertIs(scheme != value, True)


class Counters(Case):
    def test_counts(self):
        for many in range(9):
            names = [*SEVEN, "h"][:many]
            arguments = ({name: 0 for name in names}, {"k": ([], None)})
            if 1 <= many <= 4:
                self.assertEqual(Scheme(*arguments).counters(), names)
            else:
                self.check_error(BadCount, [many], Scheme, *arguments)

    def test_names(self):
        for name in NO_NAMES:
            self.check_error(BadName, [name], Scheme, {"a": 0, name: 0}, {"k": ([], None)})
            self.check_error(BadName, [name], Scheme, {name: "no start"}, {"k": ([], None)})
        self.check_error(BadName, ["B"], Scheme, {"Z": 0, "a": 0, "B": 0, "b": 0}, {"k": ([], None)})
        self.check_error(BadName, ["a b"], Scheme, {"b1": 0, "a b": 0, "a": -1}, {"k": ([], None)})

    def test_starts(self):
        for start in range(100):
            self.assertEqual(Scheme({"a": start}, {"k": ([], None)}).start("a"), start)
        for start in NO_STARTS:
            with self.subTest(start=start):
                self.check_error(BadNumber, [start], Scheme, {"a": start}, {"k": ([], None)})
                self.check_error(BadNumber, [start], Scheme, {"b": start, "a": 5, "c": 100}, {"k": ([], None)})
        self.check_error(BadNumber, [101], Scheme, {"c": 103, "b": 101, "a": 99, "d": 100}, {"k": ([], None)})


class Kinds(Case):
    def test_counts(self):
        for many in range(9):
            names = [*SEVEN, "h"][:many]
            arguments = ({"a": 0}, {name: ([], None) for name in names})
            if 1 <= many <= 6:
                self.assertEqual(Scheme(*arguments).kinds(), names)
            else:
                self.check_error(BadCount, [many], Scheme, *arguments)

    def test_names(self):
        for name in NO_NAMES:
            self.check_error(BadName, [name], Scheme, {"a": 0}, {"k": ([None], None), name: ([], None)})
        self.check_error(BadName, ["B"], Scheme, {"a": 0}, {"Z": ([], None), "a": ([], None), "B": ([], None)})

    def test_numbers_of_deeds(self):
        for many in range(12):
            deeds = [("add", "a", at + 1) for at in range(many)]
            if many <= 6:
                self.assertEqual(Scheme({"a": 0}, {"k": (deeds, None)}).deeds("k"), deeds)
            else:
                self.check_error(BadCount, [many], Scheme, {"a": 0}, {"k": (deeds, None)})

    def test_deeds(self):
        for number in range(100):
            Scheme({"a": 0}, {"k": ([("set", "a", number)], None)})
            if number > 0:
                Scheme({"a": 0}, {"k": ([("add", "a", number)], None)})
        for deed in NO_DEEDS:
            with self.subTest(deed=deed):
                self.check_error(BadDeed, [deed], Scheme, {"a": 0}, {"k": ([deed], None)})
                self.check_error(BadDeed, [deed], Scheme, {"b": 0, "a": 0}, {"k": ([("add", "b", 1), deed, 7], 7)})
                self.check_error(BadDeed, [deed], Scheme, {"a": 0}, {"k": ((deed,), None), "m": ([None] * 7, None)})

    def test_labels(self):
        for text in ("{a}", "{b:a}", "{a}.{b}", "{b}/{a:a}", "A {a}"):
            label = read_label(text)
            self.assertEqual(Scheme({"a": 0, "b": 0}, {"k": ([], label)}).label("k"), label)
        for label in [*NO_LABELS, read_label("{b}"), read_label("{a}.{b}"), read_label("{b}.{a}"),
                      Label("A ", [("q", "letters")]), object(), book()]:
            with self.subTest(label=label):
                self.check_error(BadLabel, [], Scheme, {"a": 0}, {"k": ([], label)})
                self.check_error(BadLabel, [], Scheme, {"a": 0}, {"k": ([], label), "m": ([None] * 7, None)})
                self.check_error(BadDeed, [None], Scheme, {"a": 0}, {"k": ([None], label)})

    def test_kind_by_kind(self):
        bad = [([None] * 7, 7), ([True], 7), ([], 7)]
        errors = [(BadCount, [7]), (BadDeed, [True]), (BadLabel, [])]
        for first, second in itertools.product(range(3), repeat=2):
            for names in (("k", "m"), ("m", "k")):
                kinds = {names[0]: bad[first], names[1]: bad[second]}
                error, argument = errors[first if names[0] < names[1] else second]
                self.check_error(error, argument, Scheme, {"a": 0}, kinds)


class Order(Case):
    def test_followers(self):
        kinds = {kind: ([], None) for kind in "kmn"}
        for follows, name in (({"q": []}, "q"), ({"z": [], "q": ["y"], "k": ["x"]}, "q"), ({"A": [], "k": []}, "A"),
                              ({"k": ["q"]}, "q"), ({"m": ["x"], "k": ["k", "z", "y"]}, "z"),
                              ({"n": ["k", "q"], "m": [], "k": ["m"]}, "q"), ({"": []}, ""), ({"k": [""]}, ""),
                              ({"a": []}, "a"), ({"k": ("k", "a")}, "a")):
            with self.subTest(follows=follows):
                self.check_error(UnknownName, [name], Scheme, {"a": 0}, kinds, follows=follows)
                self.check_error(UnknownName, [name], Scheme, {"a": 0}, kinds, follows=follows, begins=["b"])

    def test_beginners(self):
        kinds = {kind: ([], None) for kind in "kmn"}
        for begins, name in ((["q"], "q"), (["k", "z", "q"], "z"), (("n", "k", ""), ""), (["a"], "a"), (["K"], "K")):
            self.check_error(UnknownName, [name], Scheme, {"a": 0}, kinds, begins=begins)

    def test_the_first_of_two_errors(self):
        faults = [(BadCount, [5], self.five_counters), (BadName, ["A"], self.bad_counter),
                  (BadNumber, [-1], self.bad_start), (BadCount, [7], self.seven_kinds), (BadName, ["K"], self.bad_kind)]
        for kind in ("k", "m"):
            faults.append((BadCount, [7], lambda plain, kind=kind: self.add_deeds(plain, kind, 7)))
            faults.append((BadDeed, [("sub", kind, 1)], lambda plain, kind=kind: self.bad_deed(plain, kind)))
            faults.append((BadLabel, [], lambda plain, kind=kind: self.bad_label(plain, kind)))
        faults.append((UnknownName, ["q"], lambda plain: plain["follows"].setdefault("q", ["k"])))
        faults.append((UnknownName, ["r"], lambda plain: plain["follows"]["k"].append("r")))
        faults.append((UnknownName, ["s"], lambda plain: plain["begins"].append("s")))
        for first, second in itertools.combinations_with_replacement(range(len(faults)), 2):
            plain = copy.deepcopy(plain_scheme())
            for at in {first, second}:
                faults[at][2](plain)
            with self.subTest(first=first, second=second):
                self.check_error(*faults[first][:2], made, plain)

    def five_counters(self, plain):
        plain["starts"].update({name: 0 for name in ("c", "d", "e") if len(plain["starts"]) < 5})

    def bad_counter(self, plain):
        del plain["starts"]["b"]
        plain["starts"]["A"] = 0

    def bad_start(self, plain):
        plain["starts"]["a"] = -1

    def seven_kinds(self, plain):
        plain["kinds"].update({name: ([], None) for name in ("o", "p", "r", "v")})

    def bad_kind(self, plain):
        del plain["kinds"]["n"]
        plain["kinds"]["K"] = ([], None)
        plain["follows"].pop("n")

    def add_deeds(self, plain, kind, many):
        deeds = plain["kinds"][kind][0]
        deeds.extend([("add", "a", 1)] * (many - len(deeds)))

    def bad_deed(self, plain, kind):
        deeds = plain["kinds"][kind][0]
        deeds[:1] = [("sub", kind, 1)]

    def bad_label(self, plain, kind):
        plain["kinds"][kind] = (plain["kinds"][kind][0], read_label("{q}"))


class Changed(Case):
    def test_changed_schemes(self):
        for plain in all_told():
            scheme = made(plain)
            before = copy.deepcopy(state(scheme))
            counter, kind = scheme.counters()[-1], scheme.kinds()[-1]
            deeds, label = [("set", counter, 7), ("add", counter, 3)], Label("New ", [(counter, "letters")])
            wanted = copy.deepcopy(plain)
            wanted["starts"][counter] = 42
            self.assertEqual(state(scheme.with_start(counter, 42)), state(made(wanted)))
            self.assertEqual(scheme.with_start(counter, 42), made(wanted))
            for chosen in (deeds, tuple(deeds), []):
                wanted = copy.deepcopy(plain)
                wanted["kinds"][kind] = (list(chosen), plain["kinds"][kind][1])
                self.assertEqual(state(scheme.with_deeds(kind, chosen)), state(made(wanted)))
            for chosen in (label, None):
                wanted["kinds"][kind] = (plain["kinds"][kind][0], chosen)
                self.assertEqual(state(scheme.with_label(kind, chosen)), state(made(wanted)))
            self.assertEqual(state(scheme), before)
            self.assertEqual(scheme.with_start(counter, plain["starts"][counter]), scheme)

    def test_the_deeds_are_copied(self):
        deeds = [("add", "a", 1)]
        scheme = made(plain_scheme()).with_deeds("k", deeds)
        deeds.append(("set", "a", 0))
        self.assertEqual(scheme.deeds("k"), [("add", "a", 1)])
        scheme.deeds("k").clear()
        self.assertEqual(scheme.deeds("k"), [("add", "a", 1)])

    def test_errors(self):
        scheme = made(plain_scheme())
        before = copy.deepcopy(state(scheme))
        for name in ("q", "", "A", "k"):
            for start in (3, -1, None):
                self.check_error(UnknownName, [name], scheme.with_start, name, start)
        for name in ("q", "", "K", "a"):
            for deeds in ([], [None], [None] * 7):
                self.check_error(UnknownName, [name], scheme.with_deeds, name, deeds)
            for label in (None, 7, read_label("{q}")):
                self.check_error(UnknownName, [name], scheme.with_label, name, label)
        for start in NO_STARTS:
            self.check_error(BadNumber, [start], scheme.with_start, "a", start)
            self.check_error(BadNumber, [start], scheme.with_start, "b", start)
        for deed in NO_DEEDS:
            self.check_error(BadDeed, [deed], scheme.with_deeds, "m", [("add", "b", 1), deed, None])
        self.check_error(BadCount, [7], scheme.with_deeds, "m", [None] * 7)
        for label in [*NO_LABELS, read_label("{q}"), read_label("{a}.{q}")]:
            self.check_error(BadLabel, [], scheme.with_label, "m", label)
        self.assertEqual(state(scheme), before)
        self.assertEqual(scheme, made(plain_scheme()))


if __name__ == "__main__":
    unittest.main()
