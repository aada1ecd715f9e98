"""The interface: names, arguments, and the file in which each function is defined."""

import importlib
import inspect
import unittest

LISTED = {
    "webs": {
        "web_good": ["thing"],
        "web_of": ["many", "things"],
        "near_of": ["web", "place"],
        "far_of": ["web", "one", "other"],
        "far_table": ["web"],
        "is_joined": ["web"],
        "least_way": ["web", "one", "other"],
        "ways_many": ["web", "one", "other"],
        "between": ["web", "one", "other"],
        "way_good": ["web", "one", "other", "thing"],
        "renamed": ["web", "names"],
    },
    "together": {
        "together": ["web", "one", "other"],
        "with_of": ["web", "number"],
        "groups_of": ["web"],
        "break_good": ["web", "thing"],
        "first_break": ["web"],
        "odd_good": ["web", "thing"],
        "odd_ring": ["web"],
        "sides_of": ["web"],
    },
    "lying": {
        "paper_good": ["web", "thing"],
        "paper_of": ["web"],
        "lies": ["web"],
        "addresses_of": ["web"],
    },
    "tallied": {
        "fewest_bits": ["web"],
        "bit_of": ["web", "number"],
        "addresses_many": ["web", "bits"],
        "first_addresses": ["web", "bits"],
        "all_addresses": ["web"],
        "from_place": ["web", "place"],
        "weight_table": ["web"],
    },
    "drawn": {
        "drawn_web": ["web", "number"],
        "drawn_names": ["web", "number"],
        "drawn_by": ["web", "some"],
        "renaming_good": ["web", "other", "thing"],
        "first_renaming": ["web", "other"],
        "least_form": ["web"],
        "own_many": ["web"],
    },
    "addresses": {
        "bits_good": ["web", "thing"],
        "addresses_good": ["web", "thing"],
        "stretch_of": ["web", "bits", "one", "other"],
        "first_stretch": ["web", "bits"],
        "web_by": ["lots"],
        "turned_bits": ["lots", "numbers"],
        "put_bits": ["lots", "order"],
        "lean_bits": ["lots"],
        "led_bits": ["one", "other"],
    },
    "halves": {
        "halves_of": ["web", "number"],
        "closed_good": ["web", "thing"],
        "closed_lots": ["web"],
        "hull_of": ["web", "lot"],
        "left_by": ["web", "lot"],
        "open_good": ["web", "thing"],
        "first_open": ["web"],
    },
    "middles": {
        "middles_of": ["web", "one", "other", "third"],
        "has_middles": ["web"],
        "gap_good": ["web", "thing"],
        "first_gap": ["web"],
        "majority": ["one", "other", "third"],
        "filled_bits": ["lots"],
        "nearest_of": ["web", "places"],
    },
    "made": {
        "pairs_web": ["one", "other"],
        "joined_at": ["one", "place", "other", "there"],
        "hung_at": ["web", "place"],
        "doubled": ["web", "lot"],
        "pairs_bits": ["one", "other"],
        "doubled_bits": ["lots", "numbers"],
        "without_place": ["web", "place"],
    },
    "texts": {
        "web_shown": ["web"],
        "web_read": ["text"],
    },
}


class InterfaceTest(unittest.TestCase):
    def test_each_function_stands_in_its_file_with_its_arguments(self):
        for file, functions in LISTED.items():
            module = importlib.import_module(f"cubewebs.{file}")
            for name, arguments in functions.items():
                with self.subTest(file=file, name=name):
                    function = getattr(module, name)
                    self.assertTrue(inspect.isfunction(function))
                    self.assertEqual(function.__module__, f"cubewebs.{file}")
                    self.assertEqual(function.__name__, name)
                    self.assertEqual(list(inspect.signature(function).parameters), arguments)

    def test_the_desk_stands_in_its_file_with_its_method(self):
        module = importlib.import_module("cubewebs.desk")
        self.assertTrue(inspect.isclass(module.Desk))
        self.assertEqual((module.Desk.__module__, module.Desk.__name__), ("cubewebs.desk", "Desk"))
        self.assertEqual(list(inspect.signature(module.Desk).parameters), [])
        self.assertIn("say", vars(module.Desk))
        self.assertEqual(list(inspect.signature(module.Desk.say).parameters), ["self", "row"])


if __name__ == "__main__":
    unittest.main()
