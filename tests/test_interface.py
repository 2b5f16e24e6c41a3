"""The names and arguments of the interface, each in the file that lists it."""

import inspect
import unittest

from oncepost import accounts, facts, forgetting, halls, handlers, judging, papers
from oncepost import schedules, searches, sides, systems, ways
from oncepost.ways import Ways
from tests.samples import adder_system

FUNCTIONS = [
    (handlers, "run_handler", ["handler", "rows", "message"]),
    (handlers, "footprint", ["handler"]),
    (handlers, "is_handler", ["value"]),
    (facts, "facts", ["schedule"]),
    (facts, "needs_of", ["schedule", "fact"]),
    (facts, "why", ["schedule", "fact"]),
    (facts, "is_why", ["schedule", "value"]),
    (searches, "ends", ["system"]),
    (searches, "needs", ["system", "face"]),
    (searches, "count_states", ["system"]),
    (searches, "by_length", ["system"]),
    (searches, "count_classes", ["system"]),
    (searches, "face_of", ["state"]),
    (searches, "seen", ["system", "state"]),
    (searches, "alike", ["one", "other"]),
    (papers, "full_paper", ["system"]),
    (papers, "short_paper", ["system"]),
    (papers, "is_full", ["system", "value"]),
    (papers, "is_short", ["system", "value"]),
    (papers, "bars", ["system", "state", "step"]),
    (judging, "is_so", ["system", "state", "word"]),
    (judging, "judge", ["system", "word"]),
    (judging, "price", ["system", "word"]),
    (judging, "mend", ["system", "words", "choices"]),
    (accounts, "account", ["way", "copies", "crashes", "losses"]),
    (accounts, "witness", ["way", "word"]),
    (forgetting, "things", ["system", "state"]),
    (forgetting, "alive", ["system", "state", "thing"]),
    (forgetting, "dead", ["system", "state"]),
    (forgetting, "kept", ["system", "state"]),
    (forgetting, "forget", ["system", "state", "things"]),
    (forgetting, "may_forget", ["system", "state", "things"]),
    (sides, "parts", ["system"]),
]

# For each class its file, its arguments, its properties and its methods.
CLASSES = [
    (
        systems,
        "Service",
        "(self, name, handlers, way=('outbox', 'inbox', 'behind', 'behind'), *, crashes=0, losses=0)",
        ["name", "kinds", "way", "crashes", "losses"],
        {"handler_for": "(self, kind)", "__eq__": "(self, other)"},
    ),
    (
        systems,
        "System",
        "(self, kinds, services, commands=())",
        ["kinds", "services", "commands", "world", "begin", "all_steps"],
        {
            "service_of": "(self, kind)",
            "possible": "(self, state)",
            "after": "(self, state, step)",
            "play": "(self, *steps)",
            "lines_of": "(self, step)",
            "apart": "(self, one, other)",
            "with_budgets": "(self, budgets)",
            "with_ways": "(self, ways)",
            "__eq__": "(self, other)",
        },
    ),
    (
        schedules,
        "Schedule",
        "(self, system, *steps)",
        ["system", "steps", "end", "lines"],
        {
            "__len__": "(self)",
            "is_whole": "(self)",
            "normal": "(self)",
            "levels": "(self)",
            "many": "(self)",
            "is_before": "(self, i, j)",
            "clock": "(self, i)",
            "is_alike": "(self, other)",
            "exchanges": "(self, other)",
            "cuts": "(self)",
            "is_cut": "(self, value)",
            "below": "(self, cut)",
            "state_at": "(self, cut)",
            "through": "(self, cut)",
            "possibly": "(self, test)",
            "surely": "(self, test)",
        },
    ),
    (
        sides,
        "Beside",
        "(self, *systems)",
        ["systems"],
        {
            "state_count": "(self)",
            "end_count": "(self)",
            "lengths": "(self)",
            "class_count": "(self)",
        },
    ),
    (
        halls,
        "Hall",
        "(self, system)",
        ["system", "state", "schedule", "undone", "depth"],
        {
            "do": "(self, *steps)",
            "undo": "(self, count=1)",
            "redo": "(self, count=1)",
            "attempt": "(self, action)",
            "explore": "(self, action)",
        },
    ),
    (halls, "LoggedHall", "(self, system)", ["system", "state", "schedule", "undone", "depth", "texts"], {}),
]


class TestInterface(unittest.TestCase):
    def test_functions(self):
        for module, name, parameters in FUNCTIONS:
            with self.subTest(name):
                function = getattr(module, name)
                self.assertEqual(function.__module__, module.__name__)
                self.assertEqual(list(inspect.signature(function).parameters), parameters)

    def test_classes(self):
        for module, name, arguments, _, methods in CLASSES:
            defined = vars(module)[name]
            self.assertEqual(defined.__module__, module.__name__)
            self.assertEqual(str(inspect.signature(defined.__init__)), arguments)
            for method, parameters in methods.items():
                with self.subTest(name, method=method):
                    # In the class itself.
                    self.assertEqual(str(inspect.signature(vars(defined)[method])), parameters)

    def test_properties_are_there_when_an_object_is_created(self):
        system = adder_system()
        objects = [system.services[0], system, schedules.Schedule(system), sides.Beside(system)]
        objects += [halls.Hall(system), halls.LoggedHall(system)]
        self.assertEqual(len(objects), len(CLASSES))
        for (_, _, _, properties, _), made in zip(CLASSES, objects):
            for name in properties:
                self.assertTrue(hasattr(made, name), name)

    def test_the_default_way(self):
        self.assertEqual(inspect.signature(systems.Service).parameters["way"].default, Ways.SAFE)

    def test_cuts_is_a_generator(self):
        self.assertTrue(inspect.isgeneratorfunction(schedules.Schedule.cuts))

    def test_ways(self):
        self.assertEqual(ways.Ways.__module__, "oncepost.ways")
        self.assertIsInstance(vars(ways.Ways)["every"], staticmethod)
        self.assertEqual(list(inspect.signature(ways.Ways.every).parameters), [])
        for name in ("SAFE", "POSTING", "KEEPING", "ANSWERING", "MARKING"):
            self.assertIn(name, vars(ways.Ways))

    def test_star_arguments(self):
        for function in (forgetting.forget, forgetting.may_forget):
            self.assertEqual(str(inspect.signature(function)), "(system, state, *things)")

    def test_logged_halls(self):
        self.assertTrue(issubclass(halls.LoggedHall, halls.Hall))
        told = vars(halls.LoggedHall)
        self.assertIn("texts", told)
        self.assertIsInstance(told["recovered"], staticmethod)
        self.assertEqual(str(inspect.signature(halls.LoggedHall.recovered)), "(system, texts)")

    def test_words(self):
        self.assertEqual(judging.Words.__module__, "oncepost.judging")
        self.assertEqual(vars(judging.Words)["ALL"], ("twice", "lost", "made", "unlike", "again"))


if __name__ == "__main__":
    unittest.main()
