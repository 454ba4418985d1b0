"""Points 9 and 10: labels and their texts."""

import itertools
import re
import unittest

from partlabels.errors import BadHead, BadJoints, BadNumber, BadShown, BadText, UnknownName
from partlabels.formats import figures, letters
from partlabels.labels import Label, read_label

HEADS = ["", "a ", "Z ", "Figure ", "Part of a Figure ", "a b c ", "abcdefghij KLMNOPQRST uvwxyzA ", "q" * 29 + " "]
NO_HEADS = [" ", "  ", "Figure", "Figure  ", " Figure ", "Figure  a ", "a", "Figure a", "1 ", "Figure 1 ", "Fig. ",
            "Fig-ure ", "Fig_ure ", "Figure\n", "Figure\n ", "\n", "{ ", "} ", "a} ", "{a} ", "Figure:", "a/ ", "\xe9 ",
            "@ ", "[ ", "` ", "a\t", "q" * 30 + " ", "q" * 30, "a " * 16, "q" * 31, "abcdefghij KLMNOPQRST uvwxyzAB ",
            "a " * 2000]
NO_ITEMS = [("a",), (), ("a", "figures", "b"), ["a", "figures"], "a", "ab", None, 1, True, ("a", "figure"),
            ("a", "letter"), ("a", "Figures"), ("a", ""), ("a", None), ("a", 1), ("a", ["figures"]), ("", "figures"),
            ("A", "figures"), ("a b", "figures"), ("a1", "letters"), ("abcdefghi", "figures"), (None, "figures"),
            (1, "letters"), (["a"], "figures"), ("figures", "a"), {"a": "figures"}, {}, [], ("a\n", "figures"),
            (("a",), "figures"), ("a", ("letters",)), ("a", True), (True, "figures")]
NO_JOINTS = ["", ",", ";", "-", " ", "..", ".:", ":/", "a", "1", "\n", "{", "}", ". ", "\\", "|", None, 1, True, [],
             ["."], (".",), {}]
TEXT = re.compile(r"((?:[A-Za-z]+ )*)((?:\{[a-z]{1,8}(?::a)?\}[.:/]){0,3}\{[a-z]{1,8}(?::a)?\})", re.ASCII)


def shown_of(names, formats):
    return list(zip(names, formats))


def all_shown():
    """Lists of one to four shown counters with all choices of formats."""
    for many in range(1, 5):
        for formats in itertools.product(["figures", "letters"], repeat=many):
            yield shown_of(["chapter", "b", "figure", "zzzzzzzz"], formats)


def all_labels():
    """Arguments of labels with all choices of formats and joints."""
    for at, shown in enumerate(all_shown()):
        for joints in itertools.product(".:/", repeat=len(shown) - 1):
            yield HEADS[at % len(HEADS)], shown, list(joints)


class Making(unittest.TestCase):
    def test_properties(self):
        for head, shown, joints in all_labels():
            label = Label(head, shown, joints)
            self.assertEqual((label.head, label.shown, label.joints), (head, tuple(shown), tuple(joints)))
            self.assertEqual([type(label.head), type(label.shown), type(label.joints)], [str, tuple, tuple])
            self.assertEqual({type(item) for item in label.shown}, {tuple})

    def test_heads(self):
        for head in HEADS:
            with self.subTest(head):
                self.assertEqual(Label(head, [("a", "figures")]).head, head)

    def test_tuples_and_names_of_the_parameters(self):
        shown, joints = [("a", "figures"), ("b", "letters")], ["/"]
        label = Label("Figure ", shown, joints)
        self.assertEqual(label, Label("Figure ", tuple(shown), tuple(joints)))
        self.assertEqual(label, Label(head="Figure ", shown=shown, joints=joints))
        self.assertEqual(label, Label(joints=("/",), shown=tuple(shown), head="Figure "))
        self.assertEqual(label, Label("Figure ", shown, joints=joints))
        self.assertEqual(Label("", [("a", "figures")]).joints, ())
        self.assertEqual(Label("", [("a", "figures")], []), Label("", [("a", "figures")]))

    def test_changing_the_arguments_has_no_effect(self):
        shown, joints = [("a", "figures"), ("b", "letters")], ["."]
        label = Label("A ", shown, joints)
        self.assertEqual((shown, joints), ([("a", "figures"), ("b", "letters")], ["."]))
        shown[0] = ("c", "letters")
        shown.append(("d", "figures"))
        joints[0] = ":"
        joints.append("/")
        self.assertEqual(label.shown, (("a", "figures"), ("b", "letters")))
        self.assertEqual(label.joints, (".",))
        self.assertEqual((label.of({"a": 1, "b": 2}), label.text()), ("A 1.b", "A {a}.{b:a}"))
        self.assertEqual(label.read("A 1.b"), {"a": 1, "b": 2})

    def test_properties_cannot_be_assigned(self):
        label = Label("A ", [("a", "figures")])
        for name in ("head", "shown", "joints"):
            with self.assertRaises(AttributeError):
                setattr(label, name, label.head)
        self.assertEqual(label, Label("A ", [("a", "figures")]))


class BadArguments(unittest.TestCase):
    def assert_bad_head(self, *given):
        with self.assertRaises(BadHead) as caught:
            Label(*given)
        self.assertEqual(caught.exception.value, given[0])

    def assert_bad_shown(self, index, *given):
        with self.assertRaises(BadShown) as caught:
            Label(*given)
        self.assertEqual(caught.exception.index, index)
        self.assertIs(type(caught.exception.index), int)

    def test_bad_heads(self):
        for head in NO_HEADS:
            with self.subTest(head):
                self.assert_bad_head(head, [("a", "figures")])
                self.assert_bad_head(head, [("a", "figures"), ("b", "letters")], ["."])

    def test_nothing_shown(self):
        for joints in ([], ["."], ()):
            self.assert_bad_shown(0, "Figure ", [], joints)
            self.assert_bad_shown(0, "", (), joints)
        self.assert_bad_shown(0, "Figure ", [])

    def test_bad_items_at_each_place(self):
        good = [("w", "figures"), ("x", "letters"), ("y", "figures"), ("z", "letters")]
        for item in NO_ITEMS:
            for many in range(1, 5):
                for index in range(many):
                    shown = good[:many]
                    shown[index] = item
                    with self.subTest(item=item, many=many, index=index):
                        self.assert_bad_shown(index, "", shown, ["."] * (many - 1))
                        self.assert_bad_shown(index, "", tuple(shown), ())

    def test_counters_that_come_twice(self):
        for many in range(2, 5):
            for index in range(1, many):
                for earlier in range(index):
                    for form in ("figures", "letters"):
                        shown = [("w", "figures"), ("x", "figures"), ("y", "figures"), ("z", "figures")][:many]
                        shown[index] = (shown[earlier][0], form)
                        self.assert_bad_shown(index, "", shown, ["."] * (many - 1))

    def test_a_fifth_item(self):
        good = [(name, "figures") for name in "abcdefgh"]
        for many in range(5, 9):
            self.assert_bad_shown(4, "", good[:many], ["."] * (many - 1))
        self.assert_bad_shown(4, "", good[:4] + [None], ["."] * 4)
        self.assert_bad_shown(4, "", good[:4] + [("a", "figures")], ["."] * 4)

    def test_the_first_bad_item_counts(self):
        self.assert_bad_shown(1, "", [("a", "figures"), None, None])
        self.assert_bad_shown(1, "", [("a", "figures"), ("a", "letters"), None])
        self.assert_bad_shown(2, "", [("a", "figures"), ("b", "figures"), None, ("a", "figures"), ("c", "figures")])
        self.assert_bad_shown(3, "", [(name, "figures") for name in "abcbd"])

    def test_bad_joints(self):
        names = [("a", "figures"), ("b", "letters"), ("c", "figures"), ("d", "figures")]
        for many in range(1, 5):
            for short in range(6):
                if short != many - 1:
                    with self.subTest(many=many, joints=short), self.assertRaises(BadJoints):
                        Label("Figure ", names[:many], ["."] * short)
        for joint in NO_JOINTS:
            for many in range(2, 5):
                for place in range(many - 1):
                    joints = [".", ":", "/"][:many - 1]
                    joints[place] = joint
                    with self.subTest(joint=joint, many=many, place=place):
                        with self.assertRaises(BadJoints):
                            Label("", names[:many], joints)
                        with self.assertRaises(BadJoints):
                            Label("", names[:many], tuple(joints))
        with self.assertRaises(BadJoints):
            Label("", names[:2])

    def test_the_order_of_the_errors(self):
        self.assert_bad_head("Figure", [], ["x"])
        self.assert_bad_head("1", [None], [])
        self.assert_bad_head("q" * 31, [("a", "figures"), ("a", "figures")], ["x"])
        self.assert_bad_shown(0, "Figure ", [], ["x"])
        self.assert_bad_shown(1, "Figure ", [("a", "figures"), ("b", "word")], ["x", "y", "z"])
        self.assert_bad_shown(1, "Figure ", [("a", "figures"), ("a", "letters")], [])
        with self.assertRaises(BadJoints):
            Label("Figure ", [("a", "figures"), ("b", "letters")], ["x"])


class Equal(unittest.TestCase):
    def test_labels_with_the_same_parts(self):
        for head, shown, joints in all_labels():
            one, other = Label(head, shown, joints), Label(head, tuple(shown), tuple(joints))
            self.assertIs(one == other, True)
            self.assertIs(one != other, False)
            self.assertIs(one == one, True)

    def test_unlike_labels(self):
        given = [("A ", [("a", "figures"), ("b", "letters")], ["."]), ("", [("a", "figures"), ("b", "letters")], ["."]),
                 ("a ", [("a", "figures"), ("b", "letters")], ["."]), ("A ", [("b", "letters"), ("a", "figures")], ["."]),
                 ("A ", [("a", "figures"), ("b", "figures")], ["."]), ("A ", [("a", "letters"), ("b", "figures")], ["."]),
                 ("A ", [("a", "figures"), ("c", "letters")], ["."]), ("A ", [("a", "figures"), ("b", "letters")], [":"]),
                 ("A ", [("a", "figures"), ("b", "letters")], ["/"]), ("A ", [("a", "figures")], []),
                 ("A ", [("a", "figures"), ("b", "letters"), ("c", "figures")], [".", "."])]
        for at, one in enumerate(given):
            for place, other in enumerate(given):
                self.assertIs(Label(*one) == Label(*other), at == place)
                self.assertIs(Label(*one) != Label(*other), at != place)

    def test_other_values(self):
        label = Label("A ", [("a", "figures")])
        for value in [None, True, False, 0, 1, "", "A {a}", "A ", (), [], {}, ("A ", (("a", "figures"),), ()),
                      ["A ", [("a", "figures")], []], object(), Label, int]:
            self.assertIs(label == value, False)
            self.assertIs(value == label, False)
            self.assertIs(label != value, True)

    def test_values_that_are_like_a_label(self):
        class Like:
            head = _head = "A "
            shown = _shown = (("a", "figures"),)
            joints = _joints = ()

        self.assertIs(Label("A ", [("a", "figures")]) == Like(), False)

    def test_same_form(self):
        labels = [read_label(text) for text in
                  ["{a}", "{b}", "A {a}", "{a:a}", "{b:a}", "{a}.{b}", "{b}.{a}", "{c}.{d}", "{a}:{b}", "{a}/{b}",
                   "{a:a}.{b}", "{a}.{b:a}", "{c}.{a:a}", "{a:a}.{b:a}", "{a}.{b}.{c}", "{c}.{a}.{b}", "{a}.{b}:{c}",
                   "a {a}", "A B {a}", "A {b}", "{a}.{b}:{c}/{d}", "{d}.{b}:{c}/{a}", "{a}.{b}:{c}/{d:a}"]]

        def form(label):
            return label.head, [row[1] for row in label.shown], label.joints

        for one in labels:
            for other in labels:
                self.assertIs(one.same_form(other), form(one) == form(other))
        self.assertIs(labels[0].same_form(other=labels[1]), True)
        self.assertIs(labels[0].same_form(other=labels[2]), False)


class Giving(unittest.TestCase):
    def test_texts(self):
        label = Label("Figure ", [("b", "figures"), ("a", "letters"), ("c", "figures"), ("d", "letters")], ["/", ".", ":"])
        self.assertEqual(label.of({"a": 0, "b": 0, "c": 0, "d": 0}), "Figure 0/-.0:-")
        self.assertEqual(label.of({"d": 27, "a": 1, "c": 10 ** 30, "b": 7}), f"Figure 7/a.{10 ** 30}:aa")
        self.assertEqual(Label("", [("a", "letters")]).of({"a": 703}), "aaa")
        self.assertEqual(Label("Part A ", [("a", "figures")]).of(values={"a": 703}), "Part A 703")

    def test_all_labels(self):
        values = {"chapter": 3, "b": 27, "figure": 0, "zzzzzzzz": 10 ** 29 + 1}
        for head, shown, joints in all_labels():
            text = head
            for (counter, form), joint in zip(shown, joints + [""]):
                text += (figures if form == "figures" else letters)(values[counter]) + joint
            self.assertEqual(Label(head, shown, joints).of(values), text)

    def test_other_keys_have_no_effect(self):
        label = read_label("A {a}.{b:a}")
        values = {"x": -1, "b": 2, "head": None, "a": 1, "": "a", 3: True, "y": 1.5}
        self.assertEqual(label.of(values), "A 1.b")
        self.assertEqual(values, {"x": -1, "b": 2, "head": None, "a": 1, "": "a", 3: True, "y": 1.5})

    def test_results_of_any_size(self):
        self.assertEqual(read_label("{a}").of({"a": 10 ** 6000}), "1" + "0" * 6000)

    def test_unknown_names(self):
        label = read_label("A {c}.{a:a}:{b}")
        for values, name in [({}, "c"), ({"a": 1, "b": 1}, "c"), ({"c": 1}, "a"), ({"c": 1, "b": 1}, "a"),
                             ({"c": 1, "a": 1}, "b"), ({"C": 1, "a": 1, "b": 1}, "c"), ({"b": -1, "a": None}, "c"),
                             ({"c": -1, "a": 1}, "b"), ({"c": None}, "a")]:
            with self.subTest(values), self.assertRaises(UnknownName) as caught:
                label.of(values)
            self.assertEqual(caught.exception.name, name)

    def test_bad_numbers(self):
        label = read_label("{c}.{a:a}:{b}")
        for value in [-1, -10 ** 30, True, False, None, "1", "a", "", [1], (1,), 1.0, {}]:
            for counters in (["a"], ["b"], ["c"], ["a", "b"], ["b", "c"], ["a", "b", "c"]):
                values = {"a": 5, "b": 6, "c": 7, "x": -9}
                for counter in counters:
                    values[counter] = value
                with self.subTest(values), self.assertRaises(BadNumber) as caught:
                    label.of(values)
                self.assertIs(caught.exception.number, value)
        for values, number in [({"a": -1, "b": -2, "c": -3}, -3), ({"a": -1, "b": -2, "c": 3}, -1),
                               ({"x": -4, "b": -2, "c": 3, "a": 0}, -2)]:
            with self.assertRaises(BadNumber) as caught:
                label.of(values)
            self.assertEqual(caught.exception.number, number)


class Reading(unittest.TestCase):
    def test_what_the_label_gives(self):
        sizes = [0, 1, 9, 10, 26, 27, 702, 703, 10 ** 29, 10 ** 30 - 1]
        for at, (head, shown, joints) in enumerate(all_labels()):
            label = Label(head, shown, joints)
            for step in range(3):
                values = {counter: sizes[(at + 3 * step + 7 * place) % len(sizes)]
                          for place, (counter, _) in enumerate(shown)}
                self.assertEqual(label.read(label.of(values)), values)

    def test_every_short_text(self):
        for text in ["{a}", "{a:a}", "{a}.{b}", "{a:a}.{b}", "a {a}", "a {a:a}", "{a:a}:{b:a}", "a {a}.{b:a}",
                     "{b}.{a}.{c:a}"]:
            label = read_label(text)
            counters = [counter for counter, _ in label.shown]
            given = {}
            for numbers in itertools.product(range(28), repeat=len(counters)):
                values = dict(zip(counters, numbers))
                given[label.of(values)] = values
            for length in range(6):
                for signs in itertools.product("01a-.: ", repeat=length):
                    other = "".join(signs)
                    found = label.read(other)
                    if found is None:
                        self.assertNotIn(other, given)
                    else:
                        self.assertEqual(label.of(found), other)
                        self.assertEqual(sorted(found), sorted(counters))

    def test_texts_that_the_label_does_not_give(self):
        label = read_label("Figure {a}.{b:a}/{c}")
        self.assertEqual(label.read("Figure 12.z/0"), {"a": 12, "b": 26, "c": 0})
        for text in ["", "Figure", "Figure ", "Figure 12", "Figure 12.z", "Figure 12.z/", "12.z/0", "figure 12.z/0",
                     " Figure 12.z/0", "Figure 12.z/0 ", "Figure  12.z/0", "Figure 12.z/0\n", "Figure 12.z/00",
                     "Figure 012.z/0", "Figure 12.Z/0", "Figure 12.26/0", "Figure 12.z.0", "Figure 12/z/0",
                     "Figure 12.z:0", "Figure 12:z/0", "Figure 12.z/a", "Figure z.z/0", "Figure .z/0", "Figure 12./0",
                     "Figure -1.z/0", "Figure -.z/0", "Figure 12.0/0", "Figure 12.--/0", "Figure 12.z/0/0",
                     "Figure 12.z/0.0", "Figure 12.y.z/0", "Figure 1 2.z/0", "Figure 12.z/0Figure 12.z/0",
                     "Figure Figure 12.z/0", "Table 12.z/0", "Figure {a}.{b:a}/{c}", "FIGURE 12.z/0", "Figure12.z/0",
                     "\nFigure 12.z/0", "Figure 12.z/+0", "~" * 4000, "Figure " + "1" * 3993]:
            with self.subTest(text):
                self.assertIsNone(label.read(text))

    def test_labels_of_unlike_forms(self):
        labels = [Label(*given) for given in all_labels()]
        labels.extend(read_label(text) for text in ["a {a}", "A {a}", "{a}", "{a:a}", "a a {a}", "Figure {a}"])
        for one in labels:
            text = one.of({"chapter": 1, "b": 0, "figure": 27, "zzzzzzzz": 5, "a": 3})
            for other in labels:
                self.assertEqual(other.read(text) is not None, one.same_form(other))

    def test_the_dict_is_new_each_time(self):
        label = read_label("{a}.{b}")
        found = label.read("1.2")
        found["a"] = 9
        found["x"] = 1
        self.assertEqual(label.read("1.2"), {"a": 1, "b": 2})
        self.assertIsNot(label.read("1.2"), label.read("1.2"))

    def test_by_name(self):
        self.assertEqual(read_label("{a}").read(text="4"), {"a": 4})

    def test_long_numbers(self):
        self.assertEqual(read_label("A {a}").read("A 1" + "0" * 3990), {"a": 10 ** 3990})


class Texts(unittest.TestCase):
    def test_all_labels(self):
        for head, shown, joints in all_labels():
            text = head
            for (counter, form), joint in zip(shown, joints + [""]):
                text += ("{%s:a}" if form == "letters" else "{%s}") % counter + joint
            label = Label(head, shown, joints)
            self.assertEqual(label.text(), text)
            found = read_label(text)
            self.assertIs(type(found), Label)
            self.assertEqual((found.head, found.shown, found.joints), (head, tuple(shown), tuple(joints)))
            self.assertEqual(found, label)

    def test_a_counter_called_a(self):
        self.assertEqual(read_label("{a}").shown, (("a", "figures"),))
        self.assertEqual(read_label("{a:a}").shown, (("a", "letters"),))

    def check(self, text):
        """Compare `read_label` with the pattern of the texts of labels."""
        found = TEXT.fullmatch(text)
        due = found is not None and len(found.group(1)) <= 30
        if due:
            counters = re.findall("[{]([a-z]+)", text)
            due = len(set(counters)) == len(counters)
        if due:
            self.assertEqual(read_label(text).text(), text)
        else:
            with self.subTest(text), self.assertRaises(BadText):
                read_label(text)

    def test_changed_texts(self):
        signs = "aA1.:/{} \n-"
        for text in ["{a}", "{a:a}", "A {a}", "Fig A {ab}.{b:a}", "{a}:{b}/{c:a}.{d}", "Figure {chapter}.{figure:a}"]:
            self.check(text)
            for place in range(len(text) + 1):
                self.check(text[:place] + text[place + 1:])
                self.check(text[:place] + text[place + 2:])
                for sign in signs:
                    self.check(text[:place] + sign + text[place:])
                    self.check(text[:place] + sign + text[place + 1:])
                    for other in signs:
                        self.check(text[:place] + sign + other + text[place + 1:])

    def test_every_short_text(self):
        for length in range(7):
            for signs in itertools.product("{}a: ." if length < 6 else "{}a:", repeat=length):
                self.check("".join(signs))

    def test_bad_texts(self):
        for text in ["", " ", "Figure ", "Figure", "{}", "{a", "a}", "{{a}}", "{a}}", "{{a}", "{a:b}", "{a:}", "{:a}",
                     "{a:aa}", "{a:a:a}", "{a: a}", "{ a}", "{a }", "{A}", "{a1}", "{abcdefghi}", "{a}{b}", "{a},{b}",
                     "{a}..{b}", "{a}.", ".{a}", "{a}.{a}", "{a}.{b}.{a:a}", "{a}.{b}.{c}.{d}.{e}", "Figure{a}",
                     "Figure  {a}", " {a}", "Figure 1 {a}", "{a} ", "{a}\n", "\n{a}", "Figure {a} and {b}", "{a} {b}",
                     "q" * 30 + " {a}", "{a}" * 1000, "q" * 4000, "{" * 4000, "}{" * 2000, "{a:figures}",
                     "{a:letters}", "{a:A}", "Figure {a}.{b}x"]:
            with self.subTest(text), self.assertRaises(BadText):
                read_label(text)

    def test_heads(self):
        for head in HEADS:
            self.assertEqual(read_label(head + "{a}").head, head)
        for head in NO_HEADS:
            with self.subTest(head), self.assertRaises(BadText):
                read_label(head + "{a}")

    def test_by_name(self):
        self.assertEqual(read_label(text="{a}"), Label("", [("a", "figures")]))


if __name__ == "__main__":
    unittest.main()
