"""The section "The interface", as far as it is built, and its examples."""

import importlib
import inspect
import unittest

from partlabels.errors import BadText
from partlabels.formats import figures, letters, read_figures, read_letters
from partlabels.labels import Label, read_label
from partlabels.names import is_name

FUNCTIONS = {
    "partlabels.names": {"is_name": ["text"]},
    "partlabels.formats": {"figures": ["number"], "letters": ["number"], "read_figures": ["text"],
                           "read_letters": ["text"]},
    "partlabels.labels": {"read_label": ["text"]},
}
METHODS = {
    ("partlabels.labels", "Label"): {"__init__": ["head", "shown", "joints"], "same_form": ["other"],
                                     "of": ["values"], "read": ["text"], "text": [], "__eq__": ["other"]},
}
PROPERTIES = {("partlabels.labels", "Label"): ["head", "shown", "joints"]}


class Listed(unittest.TestCase):
    def test_functions(self):
        for file, functions in FUNCTIONS.items():
            for name, parameters in functions.items():
                with self.subTest(name):
                    found = getattr(importlib.import_module(file), name)
                    self.assertEqual(found.__module__, file)
                    self.assertEqual(list(inspect.signature(found).parameters), parameters)

    def test_methods_stand_in_the_class_itself(self):
        for (file, name), methods in METHODS.items():
            found = getattr(importlib.import_module(file), name)
            self.assertEqual(found.__module__, file)
            for method, parameters in methods.items():
                with self.subTest(name, method=method):
                    there = inspect.signature(vars(found)[method]).parameters
                    self.assertEqual(list(there)[1:], parameters)

    def test_properties_stand_in_the_class_itself(self):
        for (file, name), properties in PROPERTIES.items():
            for word in properties:
                self.assertIsInstance(vars(getattr(importlib.import_module(file), name))[word], property)


class Examples(unittest.TestCase):
    def test_formats(self):
        self.assertEqual([is_name("section"), is_name("Section"), figures(30), letters(0), letters(26), letters(27),
                          letters(703)], [True, False, "30", "-", "z", "aa", "aaa"])
        self.assertEqual((read_letters("zz"), read_figures("702")), (702, 702))
        with self.assertRaises(BadText):
            read_figures("007")

    def test_labels(self):
        label = Label("Figure ", [("chapter", "figures"), ("figure", "letters")], ["."])
        self.assertEqual((label.of({"chapter": 3, "figure": 28, "section": 9}), label.read("Figure 12.z"),
                          label.read("Figure 12.7"), label.text()),
                         ("Figure 3.ab", {"chapter": 12, "figure": 26}, None, "Figure {chapter}.{figure:a}"))
        self.assertEqual((read_label("{a}/{b}").joints, label.same_form(read_label("Figure {x}.{y:a}")),
                          read_label("Figure {chapter}.{figure:a}") == label), (("/",), True, True))


if __name__ == "__main__":
    unittest.main()
