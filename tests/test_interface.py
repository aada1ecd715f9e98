"""The interface: names, arguments, and the file in which each function is defined."""

import importlib
import inspect
import unittest

LISTED = {
    "webs": {
        "web_good": ["thing"],
        "web_of": ["many", "things"],
        "near_of": ["web", "place"],
        "far_of": ["web", "one", "other"],
        "far_table": ["web"],
        "is_joined": ["web"],
        "least_way": ["web", "one", "other"],
        "ways_many": ["web", "one", "other"],
        "between": ["web", "one", "other"],
        "way_good": ["web", "one", "other", "thing"],
        "renamed": ["web", "names"],
    },
    "together": {
        "together": ["web", "one", "other"],
        "with_of": ["web", "number"],
        "groups_of": ["web"],
        "break_good": ["web", "thing"],
        "first_break": ["web"],
        "odd_good": ["web", "thing"],
        "odd_ring": ["web"],
        "sides_of": ["web"],
    },
    "lying": {
        "paper_good": ["web", "thing"],
        "paper_of": ["web"],
        "lies": ["web"],
        "addresses_of": ["web"],
    },
}


class InterfaceTest(unittest.TestCase):
    def test_each_function_stands_in_its_file_with_its_arguments(self):
        for file, functions in LISTED.items():
            module = importlib.import_module(f"cubewebs.{file}")
            for name, arguments in functions.items():
                with self.subTest(file=file, name=name):
                    function = getattr(module, name)
                    self.assertTrue(inspect.isfunction(function))
                    self.assertEqual(function.__module__, f"cubewebs.{file}")
                    self.assertEqual(function.__name__, name)
                    self.assertEqual(list(inspect.signature(function).parameters), arguments)


if __name__ == "__main__":
    unittest.main()
