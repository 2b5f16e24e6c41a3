"""possibly and surely [33], against a plain search through all alike schedules."""

import copy
import random
import unittest

from oncepost.errors import InvalidTest, TooMany
from oncepost.schedules import Schedule
from tests.chains import separate, side_by_side
from tests.draws import system_of
from tests.samples import adder_system, nested, odd_values
from tests.search import short_ones

STEPS = (("take", "add"), ("commit", "adder"), ("relay", "adder", "told"), ("mark", "adder", "told"), ("answer", "add"))
ROW = ("row", "adder", "n", "k", 3)
LOG = ("log", "told", 1)
NEVER = ("log", "told", 5)
ALWAYS = ("not", NEVER)


def schedule(*steps):
    return Schedule(adder_system(), *(steps or STEPS))


def holds(spec, tree, test):
    """Whether a test holds in a state, told from the tree."""
    logs, services = tree
    if test[0] == "row":
        names = sorted(one["name"] for one in spec["services"])
        rows = dict(services[names.index(test[1])][0])
        return rows.get((test[2], test[3]), 0) == test[4]
    if test[0] == "log":
        return len(logs[list(spec["kinds"]).index(test[1])][0]) == test[2]
    parts = [holds(spec, tree, part) for part in test[1:]]
    return {"not": not parts[0], "and": all(parts), "or": any(parts)}[test[0]]


def drawn_test(draw, spec, deep=6):
    choice = draw.randrange(6 if deep > 1 else 2)
    if choice == 0:
        service = draw.choice(spec["services"])["name"]
        return ("row", service, draw.choice("an"), draw.choice("jk"), draw.randint(-2, 3))
    if choice < 3:
        return ("log", draw.choice(spec["kinds"]), draw.randrange(4))
    if choice == 3:
        return ("not", drawn_test(draw, spec, deep - 1))
    return (("and", "or")[choice - 4], drawn_test(draw, spec, deep - 1), drawn_test(draw, spec, deep - 1))


def leaves_of(spec, tree):
    """Tests of all rows and all numbers of entries, as they are in a state."""
    leaves = [("log", kind, len(entries)) for kind, (entries, _) in zip(spec["kinds"], tree[0])]
    for name, part in zip(sorted(one["name"] for one in spec["services"]), tree[1]):
        rows = dict(part[0])
        leaves += [("row", name, word, key, rows.get((word, key), 0)) for word in "an" for key in "jk"]
    return leaves


def met_test(draw, spec, trees):
    """A test that holds in one of the states, of what is not the same in all of them."""
    tree = draw.choice(trees)
    told = [leaves_of(spec, other) for other in trees]
    leaves = [leaf for leaf in leaves_of(spec, tree) if not all(leaf in other for other in told)]
    one, other = (draw.choice(leaves or leaves_of(spec, tree)) for _ in range(2))
    return ("not", ("or", ("not", one), ("not", other)))


class TestAgainstSearch(unittest.TestCase):
    def hold(self, one, tests):
        """How often each outcome was met: the two calls are held against the search."""
        told = {"never": 0, "avoided": 0, "surely": 0}
        states = {cut: one.state(steps) for cut, steps in one.cuts.items()}
        order = one.order()
        played = Schedule(system_of(one.spec), *one.steps)
        passed = {steps: [one.state(steps[:many]) for many in range(len(steps) + 1)] for steps in one.alike}
        for test in tests:
            first = [cut for cut in order if holds(one.spec, states[cut], test)]
            self.assertEqual(played.possibly(test), first[0] if first else None)
            free = [steps for steps, trees in passed.items() if not any(holds(one.spec, tree, test) for tree in trees)]
            surely = played.surely(test)
            if surely is None:
                self.assertEqual(free, [])
            else:
                self.assertIsInstance(surely, Schedule)
                self.assertEqual(surely.system, played.system)
                self.assertIn(surely.steps, free)
            told["surely" if surely is None else "avoided" if first else "never"] += 1
        return told

    def test_drawn_systems(self):
        draw = random.Random(7)
        told = {"never": 0, "avoided": 0, "surely": 0}
        for _, one in short_ones(range(100), most_steps=8, most_alike=60):
            trees = [one.state(steps) for steps in one.cuts.values()]
            tests = [drawn_test(draw, one.spec) for _ in range(8)]
            tests += [met_test(draw, one.spec, trees) for _ in range(8)]
            for word, many in self.hold(one, tests).items():
                told[word] += many
        self.assertGreater(min(told["never"], told["surely"]), 200, told)

    def test_services_that_share_nothing(self):
        draw = random.Random(11)
        told = {"never": 0, "avoided": 0, "surely": 0}
        for _, one in short_ones(range(40), most_steps=9, most_alike=200, separate=True):
            trees = [one.state(steps) for steps in one.cuts.values()]
            tests = [met_test(draw, one.spec, trees) for _ in range(16)]
            for word, many in self.hold(one, tests).items():
                told[word] += many
        self.assertGreater(min(told["avoided"], told["surely"]), 60, told)


class TestRightTests(unittest.TestCase):
    def test_each_form(self):
        begin = tuple((line, 0) for line in schedule().lines)
        committed = schedule().clock(1)
        committed = tuple((line, dict(committed).get(line, 0)) for line in schedule().lines)
        for test, cut in (
            (ROW, committed),
            (("row", "adder", "n", "k", 0), begin),
            (("row", "adder", "n", "j", 3), None),
            (("row", "adder", "m", "k", 3), None),
            (("row", "adder", "n", "k", -3), None),
            (LOG, schedule().clock(2)),
            (("log", "told", 0), begin),
            (("log", "add", 1), begin),
            (("log", "add", 0), None),
            (("not", ROW), begin),
            (("not", ("log", "add", 1)), None),
            (("and", ROW, LOG), schedule().clock(2)),
            (("and", ("log", "add", 1), ("not", LOG)), begin),
            (("and", LOG, ("not", ROW)), None),
            (("or", LOG, ROW), committed),
            (("or", NEVER, NEVER), None),
            (("log", "told", 10 ** 109), None),
            (("row", "adder", "zzzzzz", "abcdef", 99), None),
            (("row", "adder", "n", "k", -99), None),
        ):
            self.assertEqual(schedule().possibly(test), cut)
            self.assertEqual(schedule().possibly(test=test), cut)

    def test_surely(self):
        for test in (ROW, LOG, ("log", "add", 1), ("not", LOG), ("or", NEVER, ROW), ("and", ROW, ("log", "told", 0))):
            self.assertIsNone(schedule().surely(test))
        for test in (NEVER, ("log", "add", 0), ("row", "adder", "n", "k", 2), ("not", ALWAYS)):
            through = schedule().surely(test=test)
            self.assertTrue(through.is_alike(schedule()))

    def test_surely_of_what_some_alike_schedules_pass(self):
        # A row of a is set while that of b is not: only if a commits first.
        one = Schedule(separate(2), ("take", "a"), ("commit", "a"), ("take", "b"), ("commit", "b"))
        test = ("and", ("row", "a", "n", "k", 1), ("row", "b", "n", "k", 0))
        self.assertIsNotNone(one.possibly(test))
        steps = one.surely(test).steps
        self.assertLess(steps.index(("commit", "b")), steps.index(("commit", "a")))
        self.assertTrue(one.surely(test).is_alike(one))

    def test_the_beginning_and_the_end_count(self):
        one = schedule(("take", "add"), ("commit", "adder"))
        self.assertIsNone(one.surely(("row", "adder", "n", "k", 0)))
        self.assertIsNone(one.surely(ROW))

    def test_the_empty_schedule(self):
        empty = Schedule(adder_system())
        self.assertEqual(empty.possibly(ALWAYS), ())
        self.assertIsNone(empty.possibly(NEVER))
        self.assertIsNone(empty.surely(ALWAYS))
        self.assertEqual(empty.surely(NEVER).steps, ())

    def test_six_deep(self):
        for make in (lambda part: ("not", part), lambda part: ("and", part, part), lambda part: ("or", part, part)):
            six = nested(make, 5, LOG)
            self.assertIsNotNone(schedule().possibly(six))
            for wrong in (make(six), nested(make, 19, LOG)):
                for call in (schedule().possibly, schedule().surely):
                    with self.assertRaises(InvalidTest) as caught:
                        call(wrong)
                    self.assertIs(caught.exception.test, wrong)

    def test_seven_deep_in_one_part_alone(self):
        six = nested(lambda part: ("not", part), 5, LOG)
        for wrong in (("and", LOG, six), ("or", six, LOG), ("not", six)):
            self.assertRaises(InvalidTest, schedule().possibly, wrong)
        five = six[1]
        for right in (("and", LOG, five), ("or", five, LOG)):
            self.assertIsNotNone(schedule().possibly(right))


def no_tests():
    wrong = [None, True, 0, "", "row", (), [], {}, list(ROW), list(LOG), (ROW,), ("row",), ("log",), ("xor", LOG, LOG)]
    wrong += [ROW[:4], (*ROW, 1), LOG[:2], (*LOG, 1), ("not",), ("not", LOG, LOG), ("and", LOG), ("or", LOG, LOG, LOG)]
    wrong += [("and",), ("or",), ("Log", "told", 1), (["log"], "told", 1), ("log", ["told"], 1), ("log", "told", [1])]
    for service in (None, "", "add", "Adder", "bob", ("adder",), ["adder"], {}, True):
        wrong.append(("row", service, "n", "k", 3))
    for word in (None, "", "N", "abcdefg", "n1", ("n",), ["n"], {}, 1, True):
        wrong += [("row", "adder", word, "k", 3), ("row", "adder", "n", word, 3)]
    for value in (None, True, False, 100, -100, 10 ** 109, "3", (3,), [3]):
        wrong.append(("row", "adder", "n", "k", value))
    for kind in (None, "", "adder", "gone", "Told", ("told",), ["told"], {}, True):
        wrong.append(("log", kind, 1))
    for number in (None, True, False, -1, -(10 ** 109), "1", (1,), [1]):
        wrong.append(("log", "told", number))
    for part in (None, list(LOG), ("log", "told", True), ("gone",), (), "log"):
        wrong += [("not", part), ("and", part, LOG), ("and", LOG, part), ("or", LOG, part), ("or", ("not", part), LOG)]
    return wrong + odd_values()


class TestWrongTests(unittest.TestCase):
    def test_the_whole_test_is_told(self):
        one = schedule()
        for value in no_tests():
            for call in (one.possibly, one.surely):
                with self.subTest(value):
                    with self.assertRaises(InvalidTest) as caught:
                        call(value)
                    self.assertIs(caught.exception.test, value)

    def test_also_where_a_part_is_not_needed(self):
        wrong = ("or", ("log", "add", 1), ("log", "gone", 1))
        self.assertRaises(InvalidTest, schedule().possibly, wrong)
        wrong = ("and", NEVER, ("log", "gone", 1))
        self.assertRaises(InvalidTest, schedule().surely, wrong)

    def test_ahead_of_too_many(self):
        one = Schedule(separate(), *side_by_side(10, 10, 10, 10))
        for call in (one.possibly, one.surely):
            with self.assertRaises(InvalidTest):
                call(("log", "told", 1))
            with self.assertRaises(TooMany) as caught:
                call(("log", "a", 1))
            self.assertEqual(caught.exception.most, 2000)

    def test_what_is_passed_stays(self):
        wrong = ("and", LOG, ["log", {"told": [1]}])
        before = copy.deepcopy(wrong)
        self.assertRaises(InvalidTest, schedule().possibly, wrong)
        self.assertEqual(wrong, before)


if __name__ == "__main__":
    unittest.main()
