"""Cuts of schedules [32], against a plain search through all alike ones."""

import itertools
import unittest

from oncepost.errors import InvalidCut, TooMany
from oncepost.schedules import Schedule
from oncepost.systems import Service, System
from tests.chains import LATE, NAMES, separate, side_by_side
from tests.draws import system_of
from tests.samples import adder_system, odd_values
from tests.search import short_ones

STEPS = (("take", "add"), ("commit", "adder"), ("relay", "adder", "told"), ("mark", "adder", "told"), ("answer", "add"))
LINES = (("hand", "adder"), ("log", "add"), ("log", "told"), ("out", "adder", "told"))


def schedule():
    return Schedule(adder_system(), *STEPS)


def cut_of(*numbers):
    return tuple(zip(LINES, numbers))


WHOLE = cut_of(2, 1, 1, 2)
NOT_WHOLE = cut_of(3, 1, 1, 2)


def no_cuts():
    """Values that are no cuts of the schedule."""
    whole = list(WHOLE)
    wrong = [None, True, 0, "", "cut", (), [], {}, whole, WHOLE[:3], (*WHOLE, WHOLE[0]), (2, 1, 1, 2), dict(WHOLE)]
    wrong += [WHOLE[::-1], (WHOLE[1], WHOLE[0], *WHOLE[2:]), (WHOLE[0], *WHOLE[:3]), (WHOLE,), LINES, [[], [], [], []]]
    wrong += [cut_of(value, 1, 1, 2) for value in (-1, 4, True, False, None, "2", (2,), [2], 10 ** 109, -(10 ** 109))]
    wrong += [cut_of(2, 1, value, 2) for value in (-1, 2, True, False, None)]
    wrong += [((line, 2), *WHOLE[1:]) for line in (None, "hand", ("hand",), ["hand", "adder"], ("hand", "add"), True)]
    wrong += [(list(WHOLE[0]), *WHOLE[1:]), ((*WHOLE[0], 1), *WHOLE[1:]), (WHOLE[0][:1], *WHOLE[1:])]
    wrong += [schedule().cut_of((2, 1, 1, 2))[1:], (WHOLE[0], None, *WHOLE[2:])]
    return wrong + odd_values()


class TestAgainstSearch(unittest.TestCase):
    @classmethod
    def setUpClass(cls):
        cls.cases = [(one, Schedule(system_of(one.spec), *one.steps)) for _, one in short_ones(range(120))]

    def all_cuts(self, one):
        """All cuts, whole or not; of many only some."""
        most = [sum(line in one.plain.lines(step) for step in one.steps) for line in one.lines]
        cuts = itertools.product(*[range(many + 1) for many in most])
        found = [tuple(zip(one.lines, numbers)) for numbers in itertools.islice(cuts, 3000)]
        return found[:: 1 + len(found) // 150]

    def test_cuts_in_order(self):
        for one, schedule_ in self.cases:
            self.assertEqual(list(schedule_.cuts()), one.order())

    def test_is_cut(self):
        for one, schedule_ in self.cases:
            for cut in self.all_cuts(one) + list(one.cuts):
                self.assertIs(schedule_.is_cut(cut), cut in one.cuts)

    def test_below(self):
        for one, schedule_ in self.cases:
            for cut in self.all_cuts(one) + list(one.cuts):
                under = [other for other in one.cuts if all(a[1] <= b[1] for a, b in zip(other, cut))]
                below = schedule_.below(cut)
                self.assertIn(below, under)
                for other in under:
                    self.assertTrue(all(a[1] <= b[1] for a, b in zip(other, below)))

    def test_state_at(self):
        for one, schedule_ in self.cases:
            for cut, steps in one.cuts.items():
                self.assertEqual(schedule_.state_at(cut), one.state(steps))

    def test_through(self):
        for one, schedule_ in self.cases:
            for cut, steps in one.cuts.items():
                through = schedule_.through(cut)
                self.assertIsInstance(through, Schedule)
                self.assertEqual(through.system, schedule_.system)
                self.assertIn(through.steps, one.alike)
                self.assertEqual(sorted(through.steps[:len(steps)]), sorted(steps))

    def test_not_whole(self):
        found = 0
        for one, schedule_ in self.cases:
            for cut in self.all_cuts(one):
                if cut in one.cuts:
                    continue
                found += 1
                for call in (schedule_.state_at, schedule_.through):
                    with self.assertRaises(InvalidCut) as caught:
                        call(cut)
                    self.assertIs(caught.exception.cut, cut)
        self.assertGreater(found, 1000)


class TestCuts(unittest.TestCase):
    def test_all_cuts_of_the_document(self):
        told = [
            cut_of(0, 0, 0, 0),
            cut_of(1, 1, 0, 0),
            cut_of(2, 1, 0, 1),
            cut_of(2, 1, 1, 2),
            cut_of(3, 2, 0, 1),
            cut_of(2, 1, 1, 3),
            cut_of(3, 2, 1, 2),
            cut_of(3, 2, 1, 3),
        ]
        self.assertEqual(list(schedule().cuts()), told)

    def test_a_generator(self):
        cuts = schedule().cuts()
        self.assertIs(iter(cuts), cuts)
        self.assertEqual(next(cuts), cut_of(0, 0, 0, 0))
        self.assertEqual(len(list(cuts)), 7)
        self.assertEqual(list(schedule().cuts()), list(schedule().cuts()))

    def test_the_empty_schedule(self):
        empty = Schedule(adder_system())
        self.assertEqual(list(empty.cuts()), [()])
        self.assertIs(empty.is_cut(()), True)
        self.assertEqual(empty.below(()), ())
        self.assertEqual(empty.state_at(()), adder_system().begin)
        self.assertEqual(empty.through(()).steps, ())
        for value in ([], None, {}, "", ((("hand", "adder"), 0),), ((),)):
            self.assertIs(empty.is_cut(value), False)
            for call in (empty.below, empty.state_at, empty.through):
                self.assertRaises(InvalidCut, call, value)

    def test_by_name(self):
        one = schedule()
        self.assertIs(one.is_cut(value=WHOLE), True)
        self.assertEqual(one.below(cut=NOT_WHOLE), WHOLE)
        self.assertEqual(one.state_at(cut=WHOLE), adder_system().play(*STEPS[:3]))
        self.assertEqual(one.through(cut=cut_of(3, 2, 0, 1)).steps[2], ("answer", "add"))

    def test_no_cuts(self):
        one = schedule()
        for value in no_cuts():
            with self.subTest(value):
                self.assertIs(one.is_cut(value), False)
                for call in (one.below, one.state_at, one.through):
                    with self.assertRaises(InvalidCut) as caught:
                        call(value)
                    self.assertIs(caught.exception.cut, value)

    def test_not_whole(self):
        one = schedule()
        self.assertIs(one.is_cut(NOT_WHOLE), False)
        self.assertEqual(one.below(NOT_WHOLE), WHOLE)
        for call in (one.state_at, one.through):
            with self.assertRaises(InvalidCut) as caught:
                call(NOT_WHOLE)
            self.assertIs(caught.exception.cut, NOT_WHOLE)

    def test_a_line_that_tells_less_of_a_step_than_another_one(self):
        one = schedule()
        # The relay is on the log of told and on the outbox.
        self.assertEqual(one.below(cut_of(3, 2, 1, 1)), cut_of(3, 2, 0, 1))
        self.assertEqual(one.below(cut_of(3, 2, 0, 3)), cut_of(3, 2, 0, 1))
        self.assertEqual(one.below(cut_of(0, 2, 1, 3)), cut_of(0, 0, 0, 0))
        self.assertEqual(one.below(cut_of(3, 2, 1, 3)), cut_of(3, 2, 1, 3))


class TestNumberOfCuts(unittest.TestCase):
    def made(self, *lengths):
        return Schedule(separate(), *side_by_side(*lengths))

    def test_the_most(self):
        # 4 * 5 * 10 * 10
        one = self.made(3, 4, 9, 9)
        cuts = list(one.cuts())
        self.assertEqual((len(cuts), len(set(cuts))), (2000, 2000))
        keys = [(sum(number for line, number in cut if line[0] == "hand"), cut) for cut in cuts]
        self.assertEqual(keys, sorted(keys))
        self.assertGreater(one.many(), 10 ** 10)
        self.assertEqual(one.possibly(("log", "a", 1)), cuts[0])
        self.assertIsNone(one.possibly(("log", "a", 2)))
        self.assertIsNone(one.surely(("row", "b", "n", "k", 0)))
        self.assertEqual(one.surely(("log", "a", 2)).end, one.end)

    def test_many_more(self):
        for lengths in ((3, 4, 9, 10), (10, 10, 10, 10), (2, 6, 9, 9)):
            one = self.made(*lengths)
            calls = [one.many, lambda: list(one.cuts()), lambda: next(one.cuts())]
            calls += [lambda: one.possibly(("log", "a", 1)), lambda: one.surely(("log", "a", 1))]
            for call in calls:
                with self.assertRaises(TooMany) as caught:
                    call()
                self.assertEqual(caught.exception.most, 2000)
            # Not when it is called.
            one.cuts()

    def test_one_more(self):
        *parts, one = two_thousand_and_one()
        self.assertEqual([len(list(part.cuts())) for part in parts], [3, 29, 23])
        for call in (one.many, lambda: list(one.cuts()), lambda: one.possibly(("log", "a", 1))):
            with self.assertRaises(TooMany) as caught:
                call()
            self.assertEqual(caught.exception.most, 2000)

    def test_what_has_no_bound(self):
        one = self.made(10, 10, 10, 10)
        numbers = {"a": 7, "b": 0, "c": 10, "d": 3}
        full = {name: side_by_side(*[numbers[name] if other == name else 0 for other in NAMES]) for name in NAMES}
        inside = [step for name in NAMES for step in full[name]]
        begun = Schedule(separate(), *inside)
        counts = dict.fromkeys(one.lines, 0)
        for step in inside:
            for line in one.system.lines_of(step):
                counts[line] += 1
        cut = tuple((line, counts[line]) for line in one.lines)
        self.assertIs(one.is_cut(cut), True)
        self.assertEqual(one.below(cut), cut)
        self.assertEqual(one.state_at(cut), begun.end)
        through = one.through(cut)
        self.assertEqual(sorted(through.steps[:len(inside)]), sorted(inside))
        self.assertTrue(through.is_alike(one))
        self.assertIsNotNone(through.exchanges(one))
        # The second take is the third step of each hand.
        self.assertIs(one.is_cut(tuple((line, 2) for line in one.lines)), False)
        below = tuple((line, 2 if line[0] == "hand" else 1) for line in one.lines)
        self.assertEqual(one.below(tuple((line, 2) for line in one.lines)), below)


def two_thousand_and_one():
    """Schedules of three services that share nothing, with 3, 29 and 23 whole cuts, and the three as one: 2,001."""
    sends = {kind: ("send", kind, None, ("body",)) for kind in "xyz"}
    services = [
        Service("a", {"a": ()}, LATE),
        Service("b", {"b": (sends["x"], sends["y"])}, LATE),
        Service("c", {"c": (sends["z"],)}, LATE, losses=2),
    ]
    commands = [("a", "k", 1), ("b", "k", 1), ("c", "k", 1), ("c", "k", 1)]
    system = System(["a", "b", "c", "x", "y", "z"], services, commands)
    of_a = [("take", "a"), ("commit", "a")]
    of_b = [("take", "b"), ("commit", "b"), ("relay", "b", "y"), ("note", "b"), ("answer", "b")]
    of_b += [("relay", "b", "x"), ("mark", "b", "y"), ("mark", "b", "x")]
    of_c = [("take", "c"), ("commit", "c"), ("lose", "c", "z"), ("note", "c"), ("lose", "c", "z"), ("relay", "c", "z")]
    of_c += [("answer", "c"), ("mark", "c", "z"), ("take", "c"), ("commit", "c")]
    return [Schedule(system, *steps) for steps in (of_a, of_b, of_c, of_a + of_b + of_c)]


if __name__ == "__main__":
    unittest.main()
