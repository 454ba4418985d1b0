"""The section "The interface", as far as it is built, and its examples."""

import importlib
import inspect
import unittest

from partlabels.actions import Action, action_of, kind_action
from partlabels.documents import documents, labels, long_label, reached, shortest_document, values
from partlabels.errors import BadDeed, BadLine, BadText, NotDocument
from partlabels.formats import figures, letters, read_figures, read_letters
from partlabels.labels import Label, read_label
from partlabels.names import is_name
from partlabels.schemes import Scheme
from partlabels.schemetexts import read_scheme, scheme_text

FUNCTIONS = {
    "partlabels.names": {"is_name": ["text"]},
    "partlabels.formats": {"figures": ["number"], "letters": ["number"], "read_figures": ["text"],
                           "read_letters": ["text"]},
    "partlabels.labels": {"read_label": ["text"]},
    "partlabels.schemetexts": {"scheme_text": ["scheme"], "read_scheme": ["text"]},
    "partlabels.documents": {"is_document": ["scheme", "document"], "values": ["scheme", "document"],
                             "labels": ["scheme", "document"], "documents": ["scheme", "length"],
                             "reached": ["scheme"], "shortest_document": ["scheme", "kind"],
                             "long_values": ["scheme", "blocks"], "long_label": ["scheme", "blocks"]},
    "partlabels.actions": {"kind_action": ["scheme", "kind"], "action_of": ["scheme", "kinds"]},
}
METHODS = {
    ("partlabels.labels", "Label"): {"__init__": ["head", "shown", "joints"], "same_form": ["other"],
                                     "of": ["values"], "read": ["text"], "text": [], "__eq__": ["other"]},
    ("partlabels.schemes", "Scheme"): {"__init__": ["starts", "kinds", "follows", "begins"], "counters": [],
                                       "kinds": [], "deeds": ["kind"], "followers": ["kind"], "beginners": [],
                                       "start": ["counter"], "label": ["kind"], "may_begin": ["kind"],
                                       "may_follow": ["kind", "other"], "__eq__": ["other"],
                                       "with_start": ["counter", "start"], "with_deeds": ["kind", "deeds"],
                                       "with_label": ["kind", "label"]},
    ("partlabels.actions", "Action"): {"__init__": ["changes"], "changes": [], "of": ["values"], "__add__": ["other"],
                                       "__mul__": ["other"], "__eq__": ["other"], "__str__": []},
}
PROPERTIES = {("partlabels.labels", "Label"): ["head", "shown", "joints"]}


class Listed(unittest.TestCase):
    def test_functions(self):
        for file, functions in FUNCTIONS.items():
            for name, parameters in functions.items():
                with self.subTest(name):
                    found = getattr(importlib.import_module(file), name)
                    self.assertEqual(found.__module__, file)
                    self.assertEqual(list(inspect.signature(found).parameters), parameters)

    def test_methods_stand_in_the_class_itself(self):
        for (file, name), methods in METHODS.items():
            found = getattr(importlib.import_module(file), name)
            self.assertEqual(found.__module__, file)
            for method, parameters in methods.items():
                with self.subTest(name, method=method):
                    there = inspect.signature(vars(found)[method]).parameters
                    self.assertEqual(list(there)[1:], parameters)

    def test_properties_stand_in_the_class_itself(self):
        for (file, name), properties in PROPERTIES.items():
            for word in properties:
                self.assertIsInstance(vars(getattr(importlib.import_module(file), name))[word], property)


def example_book():
    """The scheme `book` of the examples, made as the document makes it."""
    chapter = ([("add", "chapter", 1), ("set", "figure", 0)], read_label("Chapter {chapter}"))
    figure = ([("add", "figure", 1)], read_label("Figure {chapter}.{figure}"))
    return Scheme({"chapter": 0, "figure": 0}, {"chapter": chapter, "figure": figure}, begins=["chapter"])


class Examples(unittest.TestCase):
    def test_formats(self):
        self.assertEqual([is_name("section"), is_name("Section"), figures(30), letters(0), letters(26), letters(27),
                          letters(703)], [True, False, "30", "-", "z", "aa", "aaa"])
        self.assertEqual((read_letters("zz"), read_figures("702")), (702, 702))
        with self.assertRaises(BadText):
            read_figures("007")

    def test_labels(self):
        label = Label("Figure ", [("chapter", "figures"), ("figure", "letters")], ["."])
        self.assertEqual((label.of({"chapter": 3, "figure": 28, "section": 9}), label.read("Figure 12.z"),
                          label.read("Figure 12.7"), label.text()),
                         ("Figure 3.ab", {"chapter": 12, "figure": 26}, None, "Figure {chapter}.{figure:a}"))
        self.assertEqual((read_label("{a}/{b}").joints, label.same_form(read_label("Figure {x}.{y:a}")),
                          read_label("Figure {chapter}.{figure:a}") == label), (("/",), True, True))

    def test_schemes(self):
        book = example_book()
        self.assertEqual([book.counters(), book.followers("figure"), book.beginners(), book.deeds("figure"),
                          book.may_begin("figure")],
                         [["chapter", "figure"], ["chapter", "figure"], ["chapter"], [("add", "figure", 1)], False])
        self.assertEqual((book.with_start("chapter", 7).start("chapter"), book == book.with_start("figure", 0)), (7, True))
        with self.assertRaises(BadDeed) as caught:
            Scheme({"chapter": 0}, {"figure": ([("add", "figure", 1)], read_label("Figure {chapter}.{figure}"))})
        self.assertEqual(caught.exception.deed, ("add", "figure", 1))

    def test_schemetexts(self):
        lines = ["counters chapter 0, figure 0", "kind chapter: add chapter 1, set figure 0", "label Chapter {chapter}",
                 "kind figure: add figure 1", "label Figure {chapter}.{figure}", "begins chapter",
                 "after chapter: chapter figure", "after figure: chapter figure"]
        self.assertEqual(scheme_text(example_book()), "\n".join(lines))
        self.assertEqual(read_scheme(scheme_text(example_book())) == example_book(), True)
        with self.assertRaises(BadLine) as caught:
            read_scheme("counters a 0\nkind k: add a 0\nbegins\nafter k:")
        self.assertEqual(caught.exception.line, 2)

    def test_documents(self):
        book = example_book()
        self.assertEqual((values(book, ["chapter", "figure", "figure"]) == {"chapter": 1, "figure": 2},
                          labels(book, ["chapter", "figure", "chapter", "figure"])),
                         (True, ["Chapter 1", "Figure 1.1", "Chapter 2", "Figure 2.1"]))
        self.assertEqual((list(documents(book, 2)), reached(book), shortest_document(book, "figure")),
                         ([["chapter", "chapter"], ["chapter", "figure"]], ["chapter", "figure"], ["chapter", "figure"]))
        self.assertEqual(long_label(book, [(["chapter", "figure"], 10 ** 20), (["figure"], 41)]),
                         "Figure 100000000000000000000.42")
        with self.assertRaises(NotDocument) as caught:
            values(book, ["chapter", "figure", "page"])
        self.assertEqual(caught.exception.index, 2)

    def test_actions(self):
        one = Action({"a": ("add", 2), "b": ("set", 5)})
        other = Action({"a": ("set", 1), "b": ("add", 3), "c": ("add", 0)})
        self.assertEqual((str(one + other), str(other + one), str(other), (one * 10 ** 20).changes()["a"]),
                         ("set a 1, set b 8", "set a 3, set b 5", "set a 1, add b 3", ("add", 200000000000000000000)))
        self.assertEqual(((one * 3).of({"a": 10, "b": 0, "x": 7}), str(one * 0)), ({"a": 16, "b": 5, "x": 7}, "nothing"))
        self.assertEqual((kind_action(example_book(), "figure"), action_of(example_book(), [])),
                         (Action({"figure": ("add", 1)}), Action({})))


if __name__ == "__main__":
    unittest.main()
