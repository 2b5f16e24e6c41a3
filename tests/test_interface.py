"""The names and arguments of the interface, each in the file that lists it."""

import inspect
import unittest

from oncepost import handlers, ways

FUNCTIONS = [
    (handlers, "run_handler", ["handler", "rows", "message"]),
    (handlers, "footprint", ["handler"]),
    (handlers, "is_handler", ["value"]),
]


class TestInterface(unittest.TestCase):
    def test_functions(self):
        for module, name, parameters in FUNCTIONS:
            with self.subTest(name):
                function = getattr(module, name)
                self.assertEqual(function.__module__, module.__name__)
                self.assertEqual(list(inspect.signature(function).parameters), parameters)

    def test_ways(self):
        self.assertEqual(ways.Ways.__module__, "oncepost.ways")
        self.assertIsInstance(vars(ways.Ways)["every"], staticmethod)
        self.assertEqual(list(inspect.signature(ways.Ways.every).parameters), [])
        for name in ("SAFE", "POSTING", "KEEPING", "ANSWERING", "MARKING"):
            self.assertIn(name, vars(ways.Ways))


if __name__ == "__main__":
    unittest.main()
