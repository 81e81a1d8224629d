"""The names and arguments of the interface, each in the file that lists it."""

import importlib
import inspect
import unittest

CLASSES = {
    "sumplace.errors": ["SumError", "NoPlace", "NoSide", "NoNumber", "NoText", "NoCommand"],
    "sumplace.walks": ["Walk"],
    "sumplace.looks": ["Glass"],
    "sumplace.live": ["Live"],
    "sumplace.desk": ["Desk"],
}

METHODS = {
    ("sumplace.walks", "Walk"): {
        "__init__": ["one", "other", "place"],
        "onward": [],
        "backward": [],
        "left": [],
    },
    ("sumplace.looks", "Glass"): {
        "__init__": ["row"],
        "many": [],
        "look": ["place"],
        "looks": [],
    },
    ("sumplace.live", "Live"): {
        "__init__": ["one", "other"],
        "put": ["side", "number"],
        "take": ["side", "number"],
        "undo": [],
        "rows": [],
        "below": ["number"],
        "at": ["place"],
    },
    ("sumplace.desk", "Desk"): {
        "__init__": [],
        "say": ["words"],
    },
}

FUNCTIONS = {
    "sumplace.rows": {
        "is_row": ["thing"],
        "joined": ["one", "other"],
        "many_below": ["row", "number"],
        "many_to": ["row", "number"],
    },
    "sumplace.below": {
        "sums_below": ["one", "other", "number"],
        "sums_to": ["one", "other", "number"],
    },
    "sumplace.manieth": {
        "sum_at": ["one", "other", "place"],
        "middle": ["one", "other"],
    },
    "sumplace.looks": {
        "sum_by_looks": ["one", "other", "place"],
    },
    "sumplace.differences": {
        "differences_below": ["one", "other", "number"],
        "difference_at": ["one", "other", "place"],
        "within_below": ["row", "number"],
        "within_at": ["row", "place"],
    },
    "sumplace.products": {
        "products_below": ["one", "other", "number"],
        "product_at": ["one", "other", "place"],
    },
    "sumplace.several": {
        "first_ways": ["rows", "many"],
        "ways_to": ["rows", "number"],
    },
    "sumplace.likes": {
        "like_sums": ["one", "other"],
        "most_sum": ["one", "other"],
        "nearest": ["one", "other", "number"],
    },
    "sumplace.papers": {
        "place_of": ["one", "other", "pair"],
        "places_of": ["one", "other", "number"],
        "paper_of": ["one", "other", "number"],
        "by_paper": ["one", "other", "number", "thing"],
    },
    "sumplace.notes": {
        "show_row": ["row"],
        "read_row": ["text"],
    },
}


class TestInterface(unittest.TestCase):
    def test_classes_stand_in_their_files(self):
        for file, names in CLASSES.items():
            for name in names:
                with self.subTest(file=file, name=name):
                    told = getattr(importlib.import_module(file), name)
                    self.assertTrue(inspect.isclass(told))
                    self.assertEqual(told.__module__, file)

    def test_functions_stand_in_their_files_with_their_arguments(self):
        for file, functions in FUNCTIONS.items():
            for name, arguments in functions.items():
                with self.subTest(file=file, name=name):
                    told = getattr(importlib.import_module(file), name)
                    self.assertTrue(inspect.isfunction(told))
                    self.assertEqual(told.__module__, file)
                    self.assertEqual(list(inspect.signature(told).parameters), arguments)

    def test_methods_stand_in_their_classes_with_their_arguments(self):
        for (file, name), methods in METHODS.items():
            own = vars(getattr(importlib.import_module(file), name))
            for method, arguments in methods.items():
                with self.subTest(file=file, name=name, method=method):
                    self.assertTrue(inspect.isfunction(own.get(method)))
                    self.assertEqual(list(inspect.signature(own[method]).parameters)[1:], arguments)


if __name__ == "__main__":
    unittest.main()
