"""Points 19 and 20: actions, and those of kinds."""

import copy
import itertools
import random
import unittest

from partlabels.actions import Action, action_of, kind_action
from partlabels.documents import values
from partlabels.errors import BadChange, BadNumber, BadTimes, UnknownName
from samples import Case, NAMES, NO_INTEGERS, NO_NAMES, all_told, book, made, values_behind, walk

NUMBERS = [0, 1, 2, 9, 99, 100, 10 ** 29, 10 ** 30 - 1, 10 ** 2000]
NO_CHANGES = [True, None, "", "add", "add 1", 1, [], (), {}, ("add",), ("add", 1, 1), ["add", 1], [("add", 1)],
              ("Add", 1), ("sub", 1), ("", 1), (None, 1), (1, "add"), (["add"], 1), (("add",), 1), ("adds", 1),
              ("keep", 0), ("add", -1), ("set", -1), ("add", True), ("set", False), ("add", "1"), ("set", None),
              ("add", 1.0), ("set", [1]), ("set", -(10 ** 29)), "a1", {"add": 1, "set": 2}]
NO_NATURALS = [*NO_INTEGERS, -1, -(10 ** 29)]


def some_changes(rng, names=("a", "b", "c", "dd")):
    """Changes of some of the counters."""
    many = rng.randint(0, len(names))
    return {name: (rng.choice(["add", "set"]), rng.choice([0, 1, rng.randint(0, 99), 10 ** 29]))
            for name in rng.sample(names, many)}


def some_actions(many=60):
    rng = random.Random(7)
    return [some_changes(rng) for _ in range(many)]


def done(changes, now):
    """What is done to the values of counters, told apart from the program."""
    found = {}
    for name, value in now.items():
        word, number = changes.get(name, ("add", 0))
        found[name] = {"add": value + number, "set": number}[word]
    return found


def probes():
    """Values that tell each two actions on the four counters apart."""
    return [{"a": 0, "b": 0, "c": 0, "dd": 0}, {"a": 1, "b": 5, "c": 10 ** 30, "dd": 7, "other": 3}]


class Making(Case):
    def test_changes(self):
        for number in NUMBERS:
            for word in ("add", "set"):
                found = Action({"a": (word, number), "b": ("add", 1)}).changes()
                wanted = {"b": ("add", 1)} if (word, number) == ("add", 0) else {"a": (word, number), "b": ("add", 1)}
                self.assertEqual(found, wanted)
                self.assertIs(type(found), dict)
                self.assertEqual({type(change) for change in found.values()}, {tuple})
        self.assertEqual(Action({}).changes(), {})
        self.assertEqual(Action({"a": ("set", 0)}).changes(), {"a": ("set", 0)})
        self.assertEqual(len(Action({name: ("set", 1) for name in NAMES}).changes()), len(NAMES))
        self.assertEqual(Action(changes={"a": ("add", 1)}), Action({"a": ("add", 1)}))

    def test_copies(self):
        changes = {"a": ("add", 1), "b": ("add", 0)}
        action = Action(changes)
        self.assertEqual(changes, {"a": ("add", 1), "b": ("add", 0)})
        changes["a"] = ("set", 0)
        changes["c"] = ("set", 0)
        self.assertEqual(action.changes(), {"a": ("add", 1)})
        action.changes()["a"] = ("set", 0)
        action.changes().clear()
        self.assertEqual((action.changes(), str(action), action.of({"a": 1})), ({"a": ("add", 1)}, "add a 1", {"a": 2}))

    def test_wrong_changes(self):
        for change in NO_CHANGES:
            with self.subTest(change=change):
                self.check_error(BadChange, ["b"], Action, {"b": change})
                self.check_error(BadChange, ["b"], Action, {"d": change, "b": change, "a": ("add", 1)})
                self.check_error(BadChange, ["b"], Action, {"d": 7, "c": ("set", 1), "b": change})
        for name in NO_NAMES:
            self.check_error(BadChange, [name], Action, {name: ("add", 1)})
            self.check_error(BadChange, [name], Action, {name: ("add", 0)})
            self.check_error(BadChange, [name], Action, {name: None})
        self.check_error(BadChange, ["B"], Action, {"Z": ("add", 1), "B": ("add", 1), "a": None})
        self.check_error(BadChange, ["a"], Action, {"c d": ("add", 1), "a": None, "b": ("set", 1)})


class Doing(Case):
    def test_of(self):
        for changes in some_actions():
            for now in probes():
                found = Action(changes).of(now)
                self.assertEqual(found, done(changes, now))
                self.assertEqual(set(found), set(now))
        self.assertEqual(Action({"a": ("add", 10 ** 2000)}).of({"a": 10 ** 2000}), {"a": 2 * 10 ** 2000})

    def test_other_counters(self):
        action = Action({"a": ("add", 2), "b": ("set", 5)})
        self.assertEqual(action.of({}), {})
        self.assertEqual(action.of({"x": 7}), {"x": 7})
        self.assertEqual(action.of({"b": 7}), {"b": 5})
        self.assertEqual(action.of(values={"x": 1, "a": 0}), {"x": 1, "a": 2})

    def test_the_values_stay(self):
        now = {"b": 1, "a": 2}
        action = Action({"a": ("add", 2), "b": ("set", 5)})
        found = action.of(now)
        found["a"] = 9
        self.assertEqual(now, {"b": 1, "a": 2})
        self.assertEqual(action.of(now), {"a": 4, "b": 5})
        self.assertEqual(Action({}).of(now), now)
        self.assertIsNot(Action({}).of(now), now)

    def test_wrong_values(self):
        for number in NO_NATURALS:
            with self.subTest(number=number):
                for changes in ({}, {"b": ("set", 1)}, {"b": ("add", 1)}, {"x": ("add", 1)}):
                    action = Action(changes)
                    self.check_error(BadNumber, [number], action.of, {"b": number})
                    self.check_error(BadNumber, [number], action.of, {"d": -7, "b": number, "a": 3})
                    self.check_error(BadNumber, [number], action.of, {"b": number, "a": 3, "c": -8})


class Joining(Case):
    def test_one_then_the_other(self):
        for one, other in itertools.product(some_actions(), repeat=2):
            both = Action(one) + Action(other)
            self.assertIsInstance(both, Action)
            for now in probes():
                self.assertEqual(both.of(now), done(other, done(one, now)))
            self.assertNotIn(("add", 0), both.changes().values())

    def test_changes_of_both(self):
        add, sett = Action({"a": ("add", 3)}), Action({"a": ("set", 7)})
        self.assertEqual((add + add).changes(), {"a": ("add", 6)})
        self.assertEqual((add + sett).changes(), {"a": ("set", 7)})
        self.assertEqual((sett + add).changes(), {"a": ("set", 10)})
        self.assertEqual((sett + sett).changes(), {"a": ("set", 7)})
        self.assertEqual((sett + Action({})).changes(), {"a": ("set", 7)})
        self.assertEqual((Action({}) + add).changes(), {"a": ("add", 3)})
        self.assertEqual((add + Action({"b": ("set", 0)})).changes(), {"a": ("add", 3), "b": ("set", 0)})
        self.assertEqual((Action({"a": ("set", 10 ** 40)}) + Action({"a": ("add", 10 ** 40)})).changes(),
                         {"a": ("set", 2 * 10 ** 40)})

    def test_grouping(self):
        actions = [Action(changes) for changes in some_actions(18)]
        for one, two, three in itertools.product(actions, repeat=3):
            self.assertEqual((one + two) + three, one + (two + three))

    def test_times(self):
        for changes in some_actions():
            action, row = Action(changes), Action({})
            for times in range(8):
                self.assertEqual(action * times, row)
                self.assertEqual((action * times).changes(), row.changes())
                row = row + action
            for times in (10 ** 29, 10 ** 30 - 1, 10 ** 60):
                wanted = {name: (word, number if word == "set" else number * times)
                          for name, (word, number) in changes.items() if (word, number) != ("add", 0)}
                self.assertEqual((action * times).changes(), wanted)
                self.assertIsInstance(action * times, Action)

    def test_mixed(self):
        actions = [Action(changes) for changes in some_actions(12)]
        for one, other in itertools.product(actions, repeat=2):
            for times in (0, 1, 2, 5):
                row = Action({})
                for _ in range(times):
                    row = row + one + other
                self.assertEqual((one + other) * times, row)
                self.assertEqual(one + other * times + one, (one + other * times) + one)
            self.assertEqual(one * 3 + one * 4, one * 7)
            self.assertEqual((one * 10 ** 10) * 10 ** 20, one * 10 ** 30)
            self.assertEqual(one + (one + other) * 10 ** 20, one + one + other + (one + other) * (10 ** 20 - 1))

    def test_neither_one_changes(self):
        one, other = Action({"a": ("add", 1), "b": ("set", 2)}), Action({"b": ("add", 1), "c": ("set", 0)})
        total = one
        total = total + other
        total = total * 3
        self.assertEqual(one.changes(), {"a": ("add", 1), "b": ("set", 2)})
        self.assertEqual(other.changes(), {"b": ("add", 1), "c": ("set", 0)})
        self.assertEqual((one + one).changes(), {"a": ("add", 2), "b": ("set", 2)})
        self.assertEqual(total.changes(), {"a": ("add", 3), "b": ("set", 3), "c": ("set", 0)})

    def test_wrong_times(self):
        for times in [*NO_NATURALS, Action({})]:
            for action in (Action({}), Action({"a": ("add", 1)}), Action({"b": ("set", 1)})):
                with self.subTest(times=times):
                    self.check_error(BadTimes, [times], lambda: action * times)


class Showing(Case):
    def test_texts(self):
        for changes, text in (({}, "nothing"), ({"a": ("add", 0)}, "nothing"), ({"a": ("set", 0)}, "set a 0"),
                              ({"b": ("add", 2), "a": ("add", 0), "c": ("set", 7)}, "add b 2, set c 7"),
                              ({"zz": ("set", 1), "b": ("add", 10), "aa": ("set", 3)}, "set aa 3, add b 10, set zz 1"),
                              ({"a": ("add", 10 ** 999)}, "add a 1" + "0" * 999)):
            self.assertEqual(str(Action(changes)), text)
        self.assertEqual(str(Action({"b": ("add", 1)}) + Action({"a": ("add", 1)})), "add a 1, add b 1")
        self.assertEqual(str(Action({"b": ("add", 1), "a": ("set", 1)}) * 2), "set a 1, add b 2")


class Equal(Case):
    def test_actions(self):
        rows = [{}, {"a": ("add", 1)}, {"a": ("add", 2)}, {"a": ("set", 1)}, {"b": ("add", 1)}, {"a": ("set", 0)},
                {"a": ("add", 1), "b": ("add", 1)}, {"a": ("add", 10 ** 40)}, {"a": ("add", 10 ** 40 + 1)}]
        for one, other in itertools.product(range(len(rows)), repeat=2):
            self.assertIs(Action(rows[one]) == Action(copy.deepcopy(rows[other])), one == other)
            self.assertIs(Action(rows[one]) != Action(copy.deepcopy(rows[other])), one != other)
        self.assertEqual(Action({"a": ("add", 0)}), Action({}))
        self.assertEqual(Action({"b": ("add", 2), "a": ("set", 1), "c": ("add", 0)}),
                         Action({"a": ("set", 1), "b": ("add", 2)}))

    def test_other_values(self):
        for value in (None, True, 0, "", "nothing", {}, {"a": ("add", 1)}, [], (), object(), book()):
            for action in (Action({}), Action({"a": ("add", 1)})):
                self.assertIs(action == value, False)
                self.assertIs(action != value, True)
                self.assertIs(value == action, False)


class OfKinds(Case):
    def test_kinds(self):
        for plain in all_told():
            scheme = made(plain)
            for kind in plain["kinds"]:
                now = {counter: 50 for counter in plain["starts"]}
                action = kind_action(scheme, kind)
                self.assertEqual(action.of(now), values_behind(plain, [kind], now))
                self.assertEqual(action.changes().keys(), {deed[1] for deed in plain["kinds"][kind][0]})
                self.assertEqual(action_of(scheme, [kind]), action)

    def test_rows(self):
        rng = random.Random(3)
        for plain in all_told():
            scheme = made(plain)
            for many in (0, 1, 2, 3, 10, 100):
                row = [rng.choice(list(plain["kinds"])) for _ in range(many)]
                before = list(row)
                action = action_of(scheme, row)
                now = {counter: rng.randint(0, 99) for counter in plain["starts"]}
                self.assertEqual(action.of(now), values_behind(plain, row, now))
                self.assertEqual(action_of(scheme, tuple(row)), action)
                self.assertEqual(action_of(scheme, row[:many // 2]) + action_of(scheme, row[many // 2:]), action)
                self.assertEqual(row, before)
            self.assertEqual(action_of(scheme, []), Action({}))

    def test_documents(self):
        for seed, plain in enumerate(all_told()):
            document, scheme = walk(plain, seed, 30), made(plain)
            self.assertEqual(action_of(scheme, document).of(plain["starts"]), values(scheme, document))

    def test_names_of_the_parameters(self):
        self.assertEqual(kind_action(kind="figure", scheme=book()), Action({"figure": ("add", 1)}))
        self.assertEqual(action_of(kinds=["figure"] * 2, scheme=book()), Action({"figure": ("add", 2)}))

    def test_unknown_kinds(self):
        for name in [*NO_NAMES, "page", "figures"]:
            self.check_error(UnknownName, [name], kind_action, book(), name)
            for row in ([name], ["figure", name], [name, "other"], ["figure", "chapter", name, "zz"]):
                self.check_error(UnknownName, [name], action_of, book(), row)
        plain = {"starts": {"a": 0}, "kinds": {"k": ([], None)}, "follows": {}, "begins": []}
        self.check_error(UnknownName, ["a"], kind_action, made(plain), "a")
        self.check_error(UnknownName, ["a"], action_of, made(plain), ["k", "a"])


if __name__ == "__main__":
    unittest.main()
