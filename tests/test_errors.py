"""Point 5 and the interface of partlabels/errors.py."""

import inspect
import unittest

from partlabels import errors

LISTED = {
    "BadText": [], "BadLine": ["line"], "BadName": ["name"], "UnknownName": ["name"],
    "BadNumber": ["number"], "BadCount": ["count"], "BadDeed": ["deed"], "BadLabel": [],
    "BadRow": [], "BadHead": ["value"], "BadShown": ["index"], "BadJoints": [],
    "BadChange": ["counter"], "BadTimes": ["times"], "BadWeight": ["counter"],
    "NotDocument": ["index"], "NoDocument": ["kind"], "NoLabel": ["kind"], "UnlikeSchemes": [],
    "BadKey": ["key"], "KeyTaken": ["key"], "UnknownKey": ["key"], "NotLet": ["kind", "other"],
    "NothingToUndo": [],
}

VALUES = [0, 3, -7, 10 ** 30, -10 ** 6000, True, "", "figure", "a {b} c", None, [], [1, "a"],
          ("add", "x", 1), {"a": 1}, ValueError, 1.5]


class Errors(unittest.TestCase):
    def test_the_base_class(self):
        self.assertEqual(errors.PartError.__bases__, (ValueError,))

    def test_just_the_listed_errors_are_there(self):
        there = [name for name, value in vars(errors).items() if inspect.isclass(value)]
        self.assertEqual(sorted(there), sorted(["PartError", *LISTED]))

    def test_each_is_a_direct_subclass_defined_in_the_file(self):
        for name in LISTED:
            with self.subTest(name):
                found = getattr(errors, name)
                self.assertEqual(found.__bases__, (errors.PartError,))
                self.assertTrue(issubclass(found, ValueError))
                self.assertEqual(found.__module__, "partlabels.errors")

    def test_parameters(self):
        for name, parameters in LISTED.items():
            if parameters:
                with self.subTest(name):
                    there = inspect.signature(getattr(errors, name)).parameters
                    self.assertEqual(list(there), parameters)

    def made_in_all_ways(self, name, given):
        found = getattr(errors, name)
        parameters = LISTED[name]
        yield found(*given)
        yield found(**dict(zip(parameters, given)))
        if len(parameters) == 2:
            yield found(given[0], **{parameters[1]: given[1]})

    def test_attributes_are_the_arguments(self):
        for name, parameters in LISTED.items():
            for at, value in enumerate(VALUES):
                given = [value, VALUES[at - 1]][:len(parameters)]
                for error in self.made_in_all_ways(name, given):
                    with self.subTest(name, at=at):
                        told = [getattr(error, parameter) for parameter in parameters]
                        self.assertEqual(told, given)
                        self.assertEqual([type(one) for one in told], [type(one) for one in given])

    def test_each_can_be_raised_and_caught_as_any_of_its_classes(self):
        for name, parameters in LISTED.items():
            for caught in (getattr(errors, name), errors.PartError, ValueError):
                with self.subTest(name, caught=caught):
                    with self.assertRaises(caught):
                        raise getattr(errors, name)(*["x", 1][:len(parameters)])

    def test_errors_of_one_class_keep_their_own_arguments(self):
        one, other = errors.NotLet(None, "figure"), errors.NotLet("figure", "table")
        self.assertEqual((one.kind, one.other, other.kind, other.other), (None, "figure", "figure", "table"))


if __name__ == "__main__":
    unittest.main()
