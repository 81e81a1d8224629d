"""The names and arguments of the interface, each in the file that lists it."""

import importlib
import inspect
import unittest

CLASSES = {
    "sumplace.errors": ["SumError", "NoPlace", "NoSide", "NoNumber", "NoText", "NoCommand"],
}

FUNCTIONS = {
    "sumplace.rows": {
        "is_row": ["thing"],
        "joined": ["one", "other"],
        "many_below": ["row", "number"],
        "many_to": ["row", "number"],
    },
    "sumplace.below": {
        "sums_below": ["one", "other", "number"],
        "sums_to": ["one", "other", "number"],
    },
}


class TestInterface(unittest.TestCase):
    def test_classes_stand_in_their_files(self):
        for file, names in CLASSES.items():
            for name in names:
                with self.subTest(file=file, name=name):
                    told = getattr(importlib.import_module(file), name)
                    self.assertTrue(inspect.isclass(told))
                    self.assertEqual(told.__module__, file)

    def test_functions_stand_in_their_files_with_their_arguments(self):
        for file, functions in FUNCTIONS.items():
            for name, arguments in functions.items():
                with self.subTest(file=file, name=name):
                    told = getattr(importlib.import_module(file), name)
                    self.assertTrue(inspect.isfunction(told))
                    self.assertEqual(told.__module__, file)
                    self.assertEqual(list(inspect.signature(told).parameters), arguments)


if __name__ == "__main__":
    unittest.main()
