"""The steps against a second, plain reading of point 24, at systems drawn at random [22] [23] [24] [25]."""

import copy
import unittest

from oncepost.facts import facts, needs_of
from oncepost.schedules import Schedule
from tests.draws import drawn_spec, drawn_steps, states_of, system_of
from tests.plain import Plain, played

SEEDS = range(300)


class TestAgainstPlain(unittest.TestCase):
    def test_all_steps_and_begin(self):
        for seed in SEEDS:
            spec = drawn_spec(seed)
            system, plain = system_of(spec), Plain(spec)
            with self.subTest(seed):
                self.assertEqual(system.all_steps, tuple(plain.all_steps()))
                self.assertEqual(system.begin, plain.tree())

    def test_whole_schedules(self):
        words = {}
        for seed in SEEDS:
            spec = drawn_spec(seed, most_faults=3)
            system, plain = system_of(spec), Plain(spec)
            state = system.begin
            for step in drawn_steps(system, seed):
                words[step[0]] = words.get(step[0], 0) + 1
                with self.subTest(seed, step=step):
                    self.assertEqual(system.possible(state), plain.possible())
                    self.assertIn(step, plain.possible())
                    plain.do(step)
                    state = system.after(state, step)
                    self.assertEqual(state, plain.tree())
            self.assertEqual(plain.possible(), [])
        # Each kind of step was drawn often.
        self.assertEqual(len(words), 9)
        self.assertGreater(min(words.values()), 60)

    def test_all_states_of_small_systems(self):
        for seed in range(60):
            spec = drawn_spec(seed, most_commands=2, most_kinds=3)
            system = system_of(spec)
            for state, steps in states_of(system, 150).items():
                plain = played(spec, steps)
                self.assertEqual(state, plain.tree())
                self.assertEqual(system.possible(state), plain.possible())
                for step in plain.possible():
                    after = copy.deepcopy(plain)
                    after.do(step)
                    self.assertEqual(system.after(state, step), after.tree())

    def test_lines(self):
        for seed in SEEDS:
            spec = drawn_spec(seed)
            system, plain = system_of(spec), Plain(spec)
            for one in system.all_steps:
                self.assertEqual(system.lines_of(one), tuple(sorted(plain.lines(one))))
                for other in system.all_steps:
                    self.assertIs(system.apart(one, other), not plain.lines(one) & plain.lines(other))

    def test_facts(self):
        for seed in SEEDS:
            spec = drawn_spec(seed, most_faults=2)
            system = system_of(spec)
            steps = drawn_steps(system, seed)
            plain = played(spec, steps)
            schedule = Schedule(system, *steps)
            with self.subTest(seed):
                self.assertEqual(facts(schedule), sorted(plain.facts))
                for fact in plain.facts:
                    self.assertEqual(needs_of(schedule, fact), sorted(plain.facts[fact]))


class TestEnds(unittest.TestCase):
    def test_what_is_so_at_each_end(self):
        for seed in range(300):
            system = system_of(drawn_spec(seed, most_faults=3))
            end = system.play(*drawn_steps(system, seed))
            self.assertEqual(system.possible(end), [])
            logs, services = end
            for kind, (entries, position) in zip(system.kinds, logs):
                self.assertEqual(position, 0 if kind in system.world else len(entries))
            for rows, inbox, book, outs, hand, crashes, losses in services:
                self.assertIsNone(hand)
                self.assertEqual(outs, ((), None) * (len(outs) // 2))
                self.assertGreaterEqual(min(crashes, losses), 0)


class TestApartSteps(unittest.TestCase):
    """Point 30, its last sentence."""

    def test_exchanges_in_every_state(self):
        exchanged = 0
        for seed in range(60):
            system = system_of(drawn_spec(seed, most_commands=2))
            for state in states_of(system, 150):
                possible = system.possible(state)
                for one in possible:
                    after = system.after(state, one)
                    for other in system.all_steps:
                        if not system.apart(one, other):
                            continue
                        self.assertEqual(other in possible, other in system.possible(after))
                        if other in possible:
                            exchanged += 1
                            back = system.after(system.after(state, other), one)
                            self.assertEqual(system.after(after, other), back)
        self.assertGreater(exchanged, 1000)


if __name__ == "__main__":
    unittest.main()
