"""The interface: each name in its file, with the parameters as the points call them."""

import importlib
import inspect
import unittest

from tests.test_errors import NAMES

FUNCTIONS = {
    "fines": {"fine": ["text"]},
    "later": {"later": ["case", "thing"], "shows_later": ["case", "thing", "value"]},
    "ranks": {
        "cost": ["case", "row", "calendar"], "best": ["case", "calendar"], "ranked": ["case"],
        "shows_ranked": ["case", "value"],
    },
    "habits": {
        "taken": ["case", "habit", "out", "visit"], "spent": ["case", "habit", "calendar"], "loss": ["case", "habit"],
        "shows_loss": ["case", "habit", "value"], "alike": ["case", "habit", "other"],
        "shows_alike": ["case", "habit", "other", "value"],
    },
    "heights": {"heights": ["case", "habit", "row"], "shows_heights": ["case", "habit", "row", "value"]},
    "comparing": {
        "compared": ["case", "other"], "shows_compared": ["case", "other", "value"], "first_apart": ["case", "other"],
    },
    "mending": {"mended": ["case", "thing"], "shows_mended": ["case", "thing", "value"]},
    "choosing": {"cheapest": ["case", "offers", "wishes"]},
    "seeing": {"days_seen": ["case", "seen"], "asked_next": ["case", "seen", "thing", "kind"]},
    "counters": {"read_counter": ["case", "lines"]},
}
METHODS = {
    ("stairs", "Stairs"): {
        "__init__": ["self", "pieces"], "moved": ["self", "days"], "held": ["self", "days"],
        "nowhere_above": ["self", "other"], "first_less": ["self", "other"], "days_of": ["self", "number"],
    },
    ("cases", "Case"): {
        "__init__": ["self", "text"], "after": ["self", "kind"], "bill": ["self", "thing", "kind"],
        "told": ["self", "number", "line"],
    },
    ("counters", "Counter"): {
        "__init__": ["self", "case"], "come": ["self", "day", "kind"], "bring": ["self", "thing"], "bring_by": ["self", "habit"],
        "change": ["self", "number", "line"], "undo": ["self"], "redo": ["self"], "trial": ["self"], "keep": ["self"],
        "tried": ["self", "look", "keep"], "copy": ["self"],
    },
    ("desk", "Desk"): {"__init__": ["self", "text"], "say": ["self", "line"]},
}
STATIC = {("stairs", "Stairs"): {"of": ["text"]}}
PROPERTIES = {
    ("stairs", "Stairs"): ["pieces", "text", "top", "bottom", "so_far", "from_here"],
    ("cases", "Case"): ["text", "kinds", "things"],
    ("counters", "Counter"): ["case", "first", "visit", "out", "paid", "done", "journal"],
    ("desk", "Desk"): ["counter"],
}
OPERATORS = {
    ("stairs", "Stairs"): [
        "__getitem__", "__len__", "__repr__", "__eq__", "__add__", "__sub__", "__neg__", "__mul__", "__rmul__",
        "__or__", "__and__",
    ],
    ("cases", "Case"): ["__len__", "__contains__", "__eq__"],
    ("counters", "Counter"): ["__len__", "__contains__", "__eq__"],
}


def found(file, name):
    return getattr(importlib.import_module("finestairs." + file), name)


def parameters(function):
    return list(inspect.signature(function).parameters)


class InterfaceTest(unittest.TestCase):
    def test_errors_are_classes_of_their_file(self):
        for name in ["FineError", *NAMES]:
            self.assertEqual(found("errors", name).__module__, "finestairs.errors")

    def test_functions(self):
        for file, names in FUNCTIONS.items():
            for name, told in names.items():
                function = found(file, name)
                self.assertTrue(inspect.isfunction(function))
                self.assertEqual(function.__module__, "finestairs." + file)
                self.assertEqual(parameters(function), told)

    def test_methods_stand_in_the_class_itself(self):
        for (file, name), methods in METHODS.items():
            own = found(file, name)
            self.assertEqual(own.__module__, "finestairs." + file)
            for method, told in methods.items():
                self.assertEqual(parameters(vars(own)[method]), told)

    def test_what_stands_behind_a_star_is_given_by_name(self):
        keep = inspect.signature(vars(found("counters", "Counter"))["tried"]).parameters["keep"]
        self.assertEqual((keep.kind, keep.default), (keep.KEYWORD_ONLY, False))

    def test_static_methods_stand_in_the_class_itself(self):
        for (file, name), methods in STATIC.items():
            for method, told in methods.items():
                self.assertIsInstance(vars(found(file, name))[method], staticmethod)
                self.assertEqual(parameters(getattr(found(file, name), method)), told)

    def test_properties_and_operators_stand_in_the_class_itself(self):
        for (file, name), properties in PROPERTIES.items():
            for word in properties:
                self.assertIsInstance(vars(found(file, name))[word], property)
        for (file, name), operators in OPERATORS.items():
            for word in operators:
                self.assertIn(word, vars(found(file, name)))


if __name__ == "__main__":
    unittest.main()
