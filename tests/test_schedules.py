"""Schedules: their properties and order [25] [30] [31], against a plain search through all alike ones."""

import unittest

from oncepost.errors import NotPlayed, OutOfRange, TooMany
from oncepost.schedules import Schedule
from tests.chains import separate, side_by_side
from tests.draws import drawn_spec, drawn_steps, system_of
from tests.plain import Plain
from tests.samples import adder_system, odd_values
from tests.search import short_ones

TAKE, COMMIT, ANSWER = ("take", "add"), ("commit", "adder"), ("answer", "add")
RELAY, MARK, CRASH = ("relay", "adder", "told"), ("mark", "adder", "told"), ("crash", "adder")
STEPS = (TAKE, COMMIT, RELAY, MARK, ANSWER)

# Longer than what a plain search goes through, with very many whole cuts.
FULL_CHAINS = (10, 10, 10, 10)


def of(*steps):
    return Schedule(adder_system(), *steps)


class TestProperties(unittest.TestCase):
    def test_properties(self):
        schedule = of(*STEPS)
        self.assertEqual(schedule.system, adder_system())
        self.assertEqual(schedule.steps, STEPS)
        self.assertEqual(schedule.end, adder_system().play(*STEPS))
        lines = (("hand", "adder"), ("log", "add"), ("log", "told"), ("out", "adder", "told"))
        self.assertEqual(schedule.lines, lines)
        self.assertEqual(len(schedule), 5)
        for tree in (schedule.steps, schedule.end, schedule.lines):
            self.assertIsInstance(tree, tuple)

    def test_lines_of_its_steps_alone(self):
        self.assertEqual(of(TAKE).lines, (("hand", "adder"), ("log", "add")))
        self.assertEqual(of(TAKE, CRASH).lines, (("hand", "adder"), ("log", "add"), ("out", "adder", "told")))

    def test_lines_ascend_as_python_compares_them(self):
        for _, one in short_ones(range(60)):
            schedule = Schedule(system_of(one.spec), *one.steps)
            self.assertEqual(schedule.lines, tuple(one.lines))

    def test_empty(self):
        schedule = of()
        self.assertEqual((schedule.steps, schedule.lines, len(schedule)), ((), (), 0))
        self.assertEqual(schedule.end, adder_system().begin)
        self.assertEqual((schedule.normal(), schedule.levels(), schedule.many()), ((), (), 1))
        self.assertFalse(schedule.is_whole())
        self.assertTrue(schedule.is_alike(of()))
        self.assertFalse(schedule.is_alike(of(TAKE)))
        self.assertEqual(schedule.exchanges(of()), [])
        self.assertIsNone(schedule.exchanges(of(TAKE)))

    def test_the_system_by_name(self):
        self.assertEqual(len(Schedule(system=adder_system())), 0)

    def test_is_whole(self):
        for many in range(6):
            self.assertIs(of(*STEPS[:many]).is_whole(), many == 5)
        for seed in range(60):
            system = system_of(drawn_spec(seed))
            steps = drawn_steps(system, seed)
            self.assertTrue(Schedule(system, *steps).is_whole())
            if steps:
                self.assertFalse(Schedule(system, *steps[:-1]).is_whole())

    def test_not_played(self):
        for steps, index in (
            ((COMMIT,), 0),
            ((TAKE, TAKE), 1),
            ((TAKE, COMMIT, RELAY, MARK, MARK), 4),
            ((TAKE, None, None), 1),
            ((TAKE, list(COMMIT)), 1),
            ((*STEPS, TAKE), 5),
        ):
            with self.assertRaises(NotPlayed) as caught:
                of(*steps)
            self.assertEqual(caught.exception.index, index)
        for value in odd_values():
            with self.assertRaises(NotPlayed) as caught:
                of(TAKE, COMMIT, value, TAKE)
            self.assertEqual(caught.exception.index, 2)

    def test_equal_calls_give_equal_results(self):
        schedule = of(*STEPS)
        for call in (schedule.normal, schedule.levels, schedule.many, schedule.is_whole, lambda: schedule.clock(2)):
            self.assertEqual(call(), call())
        cut = schedule.below(tuple((line, 1) for line in schedule.lines))
        self.assertEqual(schedule.through(cut), schedule.through(cut))
        no = ("log", "told", 7)
        self.assertEqual(schedule.surely(no), schedule.surely(no))
        self.assertEqual(of(TAKE), of(TAKE))
        self.assertNotEqual(of(TAKE), of(TAKE, COMMIT))
        self.assertNotEqual(of(TAKE), Schedule(adder_system(2), TAKE))
        self.assertFalse(of(TAKE) == (TAKE,))


class TestAgainstSearch(unittest.TestCase):
    @classmethod
    def setUpClass(cls):
        cls.cases = [(one, Schedule(system_of(one.spec), *one.steps)) for _, one in short_ones(range(120))]

    def test_there_are_cases(self):
        self.assertGreater(len([one for one, _ in self.cases if len(one.alike) > 5]), 25)

    def test_all_alike_ones_can_be_played_to_one_end(self):
        for one, schedule in self.cases:
            for steps in one.alike:
                self.assertEqual(schedule.system.play(*steps), schedule.end)

    def test_normal(self):
        for one, schedule in self.cases:
            self.assertEqual(schedule.normal(), min(one.alike, key=one.key))

    def test_many(self):
        for one, schedule in self.cases:
            self.assertEqual(schedule.many(), len(one.alike))

    def test_is_before(self):
        for one, schedule in self.cases:
            for i in range(len(one.steps)):
                for j in range(len(one.steps)):
                    self.assertIs(schedule.is_before(i, j), one.before(i, j))

    def test_clock(self):
        for one, schedule in self.cases:
            for j in range(len(one.steps)):
                inside = [step for i, step in enumerate(one.steps) if i == j or one.before(i, j)]
                counts = [(line, sum(line in one.plain.lines(step) for step in inside)) for line in one.lines]
                self.assertEqual(schedule.clock(j), tuple(pair for pair in counts if pair[1]))

    def test_levels(self):
        for one, schedule in self.cases:
            level = {}
            for j in range(len(one.steps)):
                level[j] = max([level[i] + 1 for i in range(j) if one.before(i, j)], default=0)
            told = []
            for number in range(max(level.values()) + 1):
                steps = [one.steps[j] for j in level if level[j] == number]
                told.append(tuple(sorted(steps, key=one.plain.rank)))
            self.assertEqual(schedule.levels(), tuple(told))
            for tree in (schedule.levels(), *schedule.levels()):
                self.assertIsInstance(tree, tuple)

    def test_is_alike(self):
        for one, schedule in self.cases:
            for steps in one.alike:
                self.assertTrue(schedule.is_alike(Schedule(system_of(one.spec), *steps)))
            for seed in range(6):
                steps = drawn_steps(schedule.system, seed, len(one.steps))
                self.assertIs(schedule.is_alike(Schedule(schedule.system, *steps)), steps in one.alike)

    def test_exchanges(self):
        for one, schedule in self.cases:
            for steps in sorted(one.alike)[:30]:
                other = Schedule(system_of(one.spec), *steps)
                self.assertEqual(exchanged(one.plain, one.steps, schedule.exchanges(other)), steps)
                self.assertEqual(exchanged(one.plain, steps, other.exchanges(schedule)), one.steps)

    def test_no_exchanges(self):
        for one, schedule in self.cases:
            for seed in range(6):
                steps = drawn_steps(schedule.system, seed, len(one.steps))
                if steps not in one.alike:
                    self.assertIsNone(schedule.exchanges(Schedule(schedule.system, *steps)))


def exchanged(plain, steps, indexes):
    """The steps after exchanges of neighbours, each of which must be apart."""
    assert isinstance(indexes, list)
    steps = list(steps)
    for at in indexes:
        assert 0 <= at < len(steps) - 1
        assert not plain.lines(steps[at]) & plain.lines(steps[at + 1])
        steps[at], steps[at + 1] = steps[at + 1], steps[at]
    return tuple(steps)


class TestOtherSchedules(unittest.TestCase):
    def test_normal_goes_by_the_order_of_the_system(self):
        # Services by name, take before commit, though "commit" is below "take" as a string.
        system = separate(2)
        steps = (("take", "b"), ("commit", "b"), ("take", "a"), ("commit", "a"))
        schedule = Schedule(system, *steps)
        self.assertEqual(schedule.normal(), (("take", "a"), ("take", "b"), ("commit", "a"), ("commit", "b")))
        self.assertEqual(schedule.levels(), ((("take", "a"), ("take", "b")), (("commit", "a"), ("commit", "b"))))

    def test_the_least_step_may_be_hidden_behind_another_one(self):
        system = separate(2)
        steps = (("take", "b"), ("crash", "b"), ("take", "b"), ("take", "a"), ("commit", "a"), ("note", "a"))
        schedule = Schedule(system, *steps)
        told = (("take", "a"), ("take", "b"), ("commit", "a"), ("note", "a"), ("crash", "b"), ("take", "b"))
        self.assertEqual(schedule.normal(), told)

    def test_unlike_by_numbers_of_steps(self):
        self.assertFalse(of(*STEPS).is_alike(of(*STEPS[:4])))
        self.assertIsNone(of(*STEPS[:4]).exchanges(of(*STEPS)))

    def test_one_of_an_equal_system(self):
        other = (TAKE, COMMIT, ANSWER, RELAY, MARK)
        self.assertTrue(of(*STEPS).is_alike(other=Schedule(adder_system(), *other)))
        indexes = of(*STEPS).exchanges(other=Schedule(adder_system(), *other))
        self.assertEqual(exchanged(Plain(spec_of_adder()), STEPS, indexes), other)

    def test_out_of_range(self):
        schedule = of(*STEPS)
        wrong = [-1, 5, 6, True, False, None, (), (0,), [0], "0", "", 10 ** 109, -(10 ** 109), {0: 0}, schedule]
        for value in wrong + odd_values():
            for call in (
                lambda: schedule.clock(value),
                lambda: schedule.clock(i=value),
                lambda: schedule.is_before(value, 0),
                lambda: schedule.is_before(4, value),
                lambda: schedule.is_before(value, None),
                lambda: schedule.is_before(j=None, i=value),
            ):
                with self.assertRaises(OutOfRange) as caught:
                    call()
                self.assertIs(caught.exception.count, value)
        for value in (0, True, -1, None):
            for call in (of().clock, lambda index: of().is_before(index, 0)):
                with self.assertRaises(OutOfRange) as caught:
                    call(value)
                self.assertIs(caught.exception.count, value)

    def test_is_before_by_steps_between(self):
        schedule = of(*STEPS)
        self.assertIs(schedule.is_before(0, 3), True)
        self.assertIs(schedule.is_before(2, 4), False)
        self.assertIs(schedule.is_before(3, 4), False)
        self.assertIs(schedule.is_before(4, 3), False)
        self.assertIs(schedule.is_before(1, 0), False)
        self.assertIs(schedule.is_before(j=1, i=0), True)
        for i in range(5):
            self.assertIs(schedule.is_before(i, i), False)

    def test_what_is_returned_is_new(self):
        schedule = of(*STEPS)
        other = of(TAKE, COMMIT, ANSWER, RELAY, MARK)
        first = schedule.exchanges(other)
        told = list(first)
        first.append(17)
        self.assertEqual(schedule.exchanges(other), told)


def spec_of_adder():
    service = adder_system().services[0]
    one = {"name": "adder", "handlers": {"add": service.handler_for("add")}, "way": service.way, "crashes": 1, "losses": 0}
    return {"kinds": ["add", "told"], "services": [one], "commands": [("add", "k", 3)]}


class TestVeryManyCuts(unittest.TestCase):
    """What has no bound answers soon where there are very many whole cuts."""

    def setUp(self):
        self.system = separate()
        self.steps = side_by_side(*FULL_CHAINS)
        self.schedule = Schedule(self.system, *self.steps)

    def test_normal_levels_and_alike(self):
        chains = [self.steps[at:at + 10] for at in (0, 10, 20, 30)]
        levels = tuple(tuple(steps) for steps in zip(*chains))
        self.assertEqual(self.schedule.levels(), levels)
        normal = Schedule(self.system, *self.schedule.normal())
        self.assertTrue(normal.is_alike(self.schedule))
        self.assertEqual(normal.normal(), normal.steps)
        mixed = Schedule(self.system, *[step for level in levels for step in level])
        self.assertTrue(mixed.is_alike(self.schedule))
        plain = Plain(spec_of_chains())
        self.assertEqual(exchanged(plain, self.steps, self.schedule.exchanges(mixed)), mixed.steps)

    def test_clock_and_is_before(self):
        self.assertEqual(self.schedule.clock(39), ((("hand", "d"), 10), (("log", "d"), 5)))
        self.assertTrue(self.schedule.is_before(30, 39))
        self.assertFalse(self.schedule.is_before(29, 39))

    def test_too_many(self):
        for call in (self.schedule.many, lambda: list(self.schedule.cuts())):
            with self.assertRaises(TooMany) as caught:
                call()
            self.assertEqual(caught.exception.most, 2000)


def spec_of_chains():
    services = [
        {"name": one.name, "handlers": {one.name: one.handler_for(one.name)}, "way": one.way, "crashes": 3, "losses": 0}
        for one in separate().services
    ]
    return {"kinds": list("abcd"), "services": services, "commands": [(name, "k", 1) for name in "abcd"]}


if __name__ == "__main__":
    unittest.main()
