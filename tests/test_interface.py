"""The section "The interface", and its examples."""

import importlib
import inspect
import unittest

from partlabels.actions import Action, action_of, kind_action
from partlabels.alike import alike, alike_paper, check_alike, parting
from partlabels.bounds import bound_paper, check_bound, greatest, greatest_document, least, raising
from partlabels.documents import documents, labels, long_label, reached, shortest_document, values
from partlabels.edits import exchange_case, put_in_case, shaken, shields
from partlabels.equations import against_equation, equations, is_equation, remainders, spanning
from partlabels.errors import BadDeed, BadLine, BadText, NotDocument, NotLet
from partlabels.formats import figures, letters, read_figures, read_letters
from partlabels.labels import Label, read_label
from partlabels.manuscripts import Manuscript
from partlabels.names import is_name
from partlabels.order import falling, gap
from partlabels.schemes import Scheme
from partlabels.schemetexts import read_scheme, scheme_text
from partlabels.shortening import lean, needless_deeds
from partlabels.twice import check_once, once_paper, twice

FUNCTIONS = {
    "partlabels.names": {"is_name": ["text"]},
    "partlabels.formats": {"figures": ["number"], "letters": ["number"], "read_figures": ["text"],
                           "read_letters": ["text"]},
    "partlabels.labels": {"read_label": ["text"]},
    "partlabels.schemetexts": {"scheme_text": ["scheme"], "read_scheme": ["text"]},
    "partlabels.documents": {"is_document": ["scheme", "document"], "values": ["scheme", "document"],
                             "labels": ["scheme", "document"], "documents": ["scheme", "length"],
                             "reached": ["scheme"], "shortest_document": ["scheme", "kind"],
                             "long_values": ["scheme", "blocks"], "long_label": ["scheme", "blocks"]},
    "partlabels.actions": {"kind_action": ["scheme", "kind"], "action_of": ["scheme", "kinds"]},
    "partlabels.equations": {"is_equation": ["scheme", "kind", "row"], "against_equation": ["scheme", "kind", "row"],
                             "equations": ["scheme", "kind"], "spanning": ["scheme", "kind"],
                             "remainders": ["scheme", "kind", "counter", "divisor"]},
    "partlabels.alike": {"parting": ["one", "other"], "alike": ["one", "other"], "alike_paper": ["one", "other"],
                         "check_alike": ["one", "other", "paper"]},
    "partlabels.twice": {"twice": ["scheme", "kind"], "once_paper": ["scheme", "kind"],
                         "check_once": ["scheme", "kind", "paper"]},
    "partlabels.bounds": {"greatest": ["scheme", "kind", "weights"], "least": ["scheme", "kind", "weights"],
                          "greatest_document": ["scheme", "kind", "weights"],
                          "raising": ["scheme", "kind", "weights"], "bound_paper": ["scheme", "kind", "weights"],
                          "check_bound": ["scheme", "kind", "weights", "bound", "paper"]},
    "partlabels.order": {"falling": ["scheme", "kind"], "gap": ["scheme", "kind"]},
    "partlabels.edits": {"put_in_case": ["scheme", "kind", "later"], "take_out_case": ["scheme", "kind", "later"],
                         "exchange_case": ["scheme", "kind", "other", "later"], "shaken": ["scheme", "kind"],
                         "shields": ["scheme", "kind", "later"]},
    "partlabels.shortening": {"needless_deeds": ["scheme"], "lean": ["scheme"]},
}
METHODS = {
    ("partlabels.labels", "Label"): {"__init__": ["head", "shown", "joints"], "same_form": ["other"],
                                     "of": ["values"], "read": ["text"], "text": [], "__eq__": ["other"]},
    ("partlabels.schemes", "Scheme"): {"__init__": ["starts", "kinds", "follows", "begins"], "counters": [],
                                       "kinds": [], "deeds": ["kind"], "followers": ["kind"], "beginners": [],
                                       "start": ["counter"], "label": ["kind"], "may_begin": ["kind"],
                                       "may_follow": ["kind", "other"], "__eq__": ["other"],
                                       "with_start": ["counter", "start"], "with_deeds": ["kind", "deeds"],
                                       "with_label": ["kind", "label"]},
    ("partlabels.actions", "Action"): {"__init__": ["changes"], "changes": [], "of": ["values"], "__add__": ["other"],
                                       "__mul__": ["other"], "__eq__": ["other"], "__str__": []},
    ("partlabels.manuscripts", "Manuscript"): {"__init__": ["scheme"], "put": ["index", "kind", "key"],
                                               "drop": ["index"], "exchange": ["index"], "move": ["index", "target"],
                                               "rekey": ["index", "key"], "parts": [], "document": [], "labels": [],
                                               "changed": [], "scheme": [], "label_of": ["key"], "place_of": ["key"],
                                               "told": ["text"], "__len__": [], "undo": [], "trial": [],
                                               "tried": ["action"]},
}
PROPERTIES = {("partlabels.labels", "Label"): ["head", "shown", "joints"]}


class Listed(unittest.TestCase):
    def test_functions(self):
        for file, functions in FUNCTIONS.items():
            for name, parameters in functions.items():
                with self.subTest(name):
                    found = getattr(importlib.import_module(file), name)
                    self.assertEqual(found.__module__, file)
                    self.assertEqual(list(inspect.signature(found).parameters), parameters)

    def test_methods_stand_in_the_class_itself(self):
        for (file, name), methods in METHODS.items():
            found = getattr(importlib.import_module(file), name)
            self.assertEqual(found.__module__, file)
            for method, parameters in methods.items():
                with self.subTest(name, method=method):
                    there = inspect.signature(vars(found)[method]).parameters
                    self.assertEqual(list(there)[1:], parameters)

    def test_properties_stand_in_the_class_itself(self):
        for (file, name), properties in PROPERTIES.items():
            for word in properties:
                self.assertIsInstance(vars(getattr(importlib.import_module(file), name))[word], property)


def example_book():
    """The scheme `book` of the examples, made as the document makes it."""
    chapter = ([("add", "chapter", 1), ("set", "figure", 0)], read_label("Chapter {chapter}"))
    figure = ([("add", "figure", 1)], read_label("Figure {chapter}.{figure}"))
    return Scheme({"chapter": 0, "figure": 0}, {"chapter": chapter, "figure": figure}, begins=["chapter"])


class Examples(unittest.TestCase):
    def test_formats(self):
        self.assertEqual([is_name("section"), is_name("Section"), figures(30), letters(0), letters(26), letters(27),
                          letters(703)], [True, False, "30", "-", "z", "aa", "aaa"])
        self.assertEqual((read_letters("zz"), read_figures("702")), (702, 702))
        with self.assertRaises(BadText):
            read_figures("007")

    def test_labels(self):
        label = Label("Figure ", [("chapter", "figures"), ("figure", "letters")], ["."])
        self.assertEqual((label.of({"chapter": 3, "figure": 28, "section": 9}), label.read("Figure 12.z"),
                          label.read("Figure 12.7"), label.text()),
                         ("Figure 3.ab", {"chapter": 12, "figure": 26}, None, "Figure {chapter}.{figure:a}"))
        self.assertEqual((read_label("{a}/{b}").joints, label.same_form(read_label("Figure {x}.{y:a}")),
                          read_label("Figure {chapter}.{figure:a}") == label), (("/",), True, True))

    def test_schemes(self):
        book = example_book()
        self.assertEqual([book.counters(), book.followers("figure"), book.beginners(), book.deeds("figure"),
                          book.may_begin("figure")],
                         [["chapter", "figure"], ["chapter", "figure"], ["chapter"], [("add", "figure", 1)], False])
        self.assertEqual((book.with_start("chapter", 7).start("chapter"), book == book.with_start("figure", 0)), (7, True))
        with self.assertRaises(BadDeed) as caught:
            Scheme({"chapter": 0}, {"figure": ([("add", "figure", 1)], read_label("Figure {chapter}.{figure}"))})
        self.assertEqual(caught.exception.deed, ("add", "figure", 1))

    def test_schemetexts(self):
        lines = ["counters chapter 0, figure 0", "kind chapter: add chapter 1, set figure 0", "label Chapter {chapter}",
                 "kind figure: add figure 1", "label Figure {chapter}.{figure}", "begins chapter",
                 "after chapter: chapter figure", "after figure: chapter figure"]
        self.assertEqual(scheme_text(example_book()), "\n".join(lines))
        self.assertEqual(read_scheme(scheme_text(example_book())) == example_book(), True)
        with self.assertRaises(BadLine) as caught:
            read_scheme("counters a 0\nkind k: add a 0\nbegins\nafter k:")
        self.assertEqual(caught.exception.line, 2)

    def test_documents(self):
        book = example_book()
        self.assertEqual((values(book, ["chapter", "figure", "figure"]) == {"chapter": 1, "figure": 2},
                          labels(book, ["chapter", "figure", "chapter", "figure"])),
                         (True, ["Chapter 1", "Figure 1.1", "Chapter 2", "Figure 2.1"]))
        self.assertEqual((list(documents(book, 2)), reached(book), shortest_document(book, "figure")),
                         ([["chapter", "chapter"], ["chapter", "figure"]], ["chapter", "figure"], ["chapter", "figure"]))
        self.assertEqual(long_label(book, [(["chapter", "figure"], 10 ** 20), (["figure"], 41)]),
                         "Figure 100000000000000000000.42")
        with self.assertRaises(NotDocument) as caught:
            values(book, ["chapter", "figure", "page"])
        self.assertEqual(caught.exception.index, 2)

    def test_actions(self):
        one = Action({"a": ("add", 2), "b": ("set", 5)})
        other = Action({"a": ("set", 1), "b": ("add", 3), "c": ("add", 0)})
        self.assertEqual((str(one + other), str(other + one), str(other), (one * 10 ** 20).changes()["a"]),
                         ("set a 1, set b 8", "set a 3, set b 5", "set a 1, add b 3", ("add", 200000000000000000000)))
        self.assertEqual(((one * 3).of({"a": 10, "b": 0, "x": 7}), str(one * 0)), ({"a": 16, "b": 5, "x": 7}, "nothing"))
        self.assertEqual((kind_action(example_book(), "figure"), action_of(example_book(), [])),
                         (Action({"figure": ("add", 1)}), Action({})))

    def test_equations(self):
        parts = {"figure": ([("add", "figure", 1), ("add", "total", 1)], None),
                 "table": ([("add", "table", 2), ("add", "total", 1)], None)}
        both = Scheme({"figure": 0, "table": 0, "total": 5}, parts)
        self.assertEqual((equations(both, "table"), is_equation(both, "figure", (2, 1, -2, 10)),
                          len(spanning(both, "figure"))), ([(2, 1, -2, 10)], True, 3))
        self.assertEqual((against_equation(both, "table", (0, 1, 0, -2)), remainders(both, "figure", "table", 4)),
                         (["table", "table"], [0, 2]))

    def test_alike(self):
        book = example_book()
        other = book.with_deeds("chapter", [("set", "figure", 0), ("add", "chapter", 1)])
        self.assertEqual((alike(book, other), check_alike(book, other, alike_paper(book, other))), (True, True))
        self.assertEqual(parting(book, book.with_deeds("chapter", [("add", "chapter", 1)])),
                         ["chapter", "figure", "chapter", "figure"])
        self.assertIs(alike_paper(book, book.with_start("chapter", 1)), None)

    def test_twice(self):
        book = example_book()
        self.assertEqual((twice(book, "figure"), check_once(book, "figure", once_paper(book, "figure")),
                          check_once(book, "figure", [])), (None, True, False))
        loose = book.with_deeds("chapter", [("set", "figure", 0)])
        document, first, second = twice(loose, "figure")
        self.assertEqual((labels(loose, document)[first] == labels(loose, document)[second],
                          once_paper(loose, "figure")), (True, None))
        self.assertIs(check_once(book, "chapter", [("chapter", ("added",)), ("figure", ("kept",)),
                                                   ("figure", ("added",))]), True)

    def test_bounds(self):
        book = example_book()
        self.assertEqual((greatest(book, "chapter", {"figure": 1}), greatest(book, "figure", {"figure": 1}),
                          least(book, "figure", {"chapter": 2, "figure": 1})), (0, None, 3))
        begin, row, end = raising(book, "figure", {"figure": 1, "chapter": -5})
        self.assertEqual((set(row), greatest_document(book, "figure", {"chapter": -1})),
                         ({"figure"}, ["chapter", "figure"]))
        paper = bound_paper(book, "figure", {"chapter": -1})
        self.assertEqual((check_bound(book, "figure", {"chapter": -1}, -1, paper),
                          check_bound(book, "figure", {"chapter": -1}, -2, paper)), (True, False))

    def test_order(self):
        book = example_book()
        self.assertEqual((falling(book, "figure"), gap(book, "figure"), gap(book, "chapter")), (None, None, None))
        loose = book.with_deeds("chapter", [("set", "figure", 0)])
        document, first, second = falling(loose, "figure")
        first_values, second_values = values(loose, document[:first + 1]), values(loose, document[:second + 1])
        self.assertEqual((second_values["figure"] < first_values["figure"], gap(loose, "figure") is None), (True, False))
        self.assertIs(gap(book.with_deeds("figure", [("add", "figure", 2)]), "figure") is None, False)

    def test_edits(self):
        book = example_book()
        self.assertEqual((shaken(book, "figure"), shields(book, "figure", "figure"), shaken(book, "chapter")),
                         (["figure"], ["chapter"], ["chapter", "figure"]))
        self.assertEqual((exchange_case(book, "figure", "figure", "chapter"), put_in_case(book, "figure", "chapter")),
                         (None, None))

    def test_shortening(self):
        book = example_book()
        doubled = book.with_deeds("figure", [("set", "figure", 3), ("set", "figure", 8)])
        self.assertEqual((needless_deeds(book), needless_deeds(doubled)), ([], [("chapter", 1), ("figure", 0)]))
        self.assertEqual(lean(book.with_label("figure", None)).deeds("chapter"), [("add", "chapter", 1)])

    def test_manuscripts(self):
        manuscript = Manuscript(example_book())
        manuscript.put(0, "chapter", key="one")
        manuscript.put(1, "figure", key="map")
        self.assertEqual((manuscript.told("see {map} in {one}"), len(manuscript), manuscript.changed()),
                         ("see Figure 1.1 in Chapter 1", 2, []))
        manuscript.put(0, "chapter")
        self.assertEqual((manuscript.changed(), manuscript.labels(), manuscript.tried(lambda one: one.move(0, 2))),
                         (["map", "one"], ["Chapter 1", "Chapter 2", "Figure 2.1"], None))
        manuscript.undo()
        self.assertEqual((manuscript.parts(), manuscript.place_of("map")), ([("chapter", "one"), ("figure", "map")], 1))
        with self.assertRaises(NotLet) as caught:
            manuscript.drop(0)
        self.assertEqual((caught.exception.kind, caught.exception.other), (None, "figure"))


if __name__ == "__main__":
    unittest.main()
