"""The bound of 2,000 states: what raises TooMany, after which errors, and what has no such bound [2]."""

import unittest

from oncepost.errors import InvalidCount, InvalidWay, NoService, NoWord, OtherWorld, TooMany
from oncepost.judging import Words, is_so, judge, mend, price
from oncepost.papers import bars, full_paper, is_full, is_short, short_paper
from oncepost.searches import alike, by_length, count_classes, count_states, ends, face_of, needs, seen
from oncepost.systems import Service, System
from oncepost.ways import Ways
from tests.bounds import just_enough, too_many
from tests.draws import drawn_steps
from tests.listing import states_from
from tests.samples import adder_system, odd_values


class BoundCase(unittest.TestCase):
    def refuse(self, call, *values):
        with self.assertRaises(TooMany) as caught:
            call(*values)
        self.assertEqual(caught.exception.most, 2000)


class TestSystems(unittest.TestCase):
    def test_the_states_of_the_two(self):
        for system, many in ((just_enough(), 2000), (too_many(), 2001)):
            self.assertEqual(len(states_from(system, system.begin)), many)


class TestJustEnough(unittest.TestCase):
    def test_all(self):
        system = just_enough()
        self.assertEqual(count_states(system), 2000)
        self.assertEqual(len(full_paper(system)), 2000)
        self.assertIs(is_short(system, short_paper(system)), True)
        self.assertIs(is_full(system, full_paper(system)), True)
        told = ends(system)
        self.assertEqual(len({face for face, _ in told}), len(told))
        self.assertEqual([needs(system, face) for face, _ in told].count([((0, 0), (0, 0))]), 1)
        self.assertGreater(sum(by_length(system)), 10 ** 6)
        self.assertGreater(count_classes(system), 10)
        self.assertIsNone(alike(system, just_enough()))
        self.assertEqual(judge(system, "lost")[0], "holds")
        self.assertEqual(price(system, "twice"), [])
        self.assertEqual(mend(system, ["lost"], {}), {})


class TestTooMany(BoundCase):
    def test_each_function(self):
        system = too_many()
        for call in (ends, count_states, by_length, count_classes, full_paper, short_paper):
            self.refuse(call, system)
        for word in Words.ALL:
            self.refuse(judge, system, word)
            self.refuse(price, system, word)

    def test_needs_whatever_the_face_is(self):
        system = too_many()
        end = system.play(*drawn_steps(system, 1))
        for value in [None, (), [], face_of(end), face_of(system.begin)] + odd_values():
            self.refuse(needs, system, value)

    def test_other_errors_first(self):
        system = too_many()
        for call in (judge, price):
            with self.assertRaises(NoWord):
                call(system, "none")
        other = System(["a"], [Service("s", {"a": ()})])
        for pair in ((system, other), (other, system)):
            with self.assertRaises(OtherWorld):
                alike(*pair)
        with self.assertRaises(NoWord):
            mend(system, ["none"], {})
        with self.assertRaises(NoService):
            mend(system, [], {"u": [Ways.SAFE]})
        with self.assertRaises(InvalidWay):
            mend(system, [], {"s": [None]})
        with self.assertRaises(InvalidCount):
            mend(system, [], {"s": []})

    def test_alike(self):
        system, enough = too_many(), just_enough()
        self.assertEqual(system.world, enough.world)
        self.refuse(alike, system, enough)
        self.refuse(alike, enough, system)
        self.refuse(alike, system, system)
        # Also if the first one would tell the answer.
        self.refuse(alike, enough.with_budgets([(0, 0), (0, 0)]), system)

    def test_a_system_with_very_many_states(self):
        services = [Service(name, {name: ()}, crashes=3) for name in "abcd"]
        self.refuse(count_states, System(list("abcd"), services, [(name, "k", 1) for name in "abcd"]))


class TestMend(BoundCase):
    """A choice with more than 2,000 states matters if it is not after the one that is told."""

    def setUp(self):
        # With the first way of s 2,001 states, with the second one fewer; a message of s is told again or not.
        self.system = too_many()
        self.big = ("outbox", "late", "ahead", "ahead")
        self.small = ("before", "inbox", "behind", "behind")
        self.assertEqual(self.system.services[0].way, self.big)
        self.assertLess(count_states(self.system.with_ways({"s": self.small})), 2000)

    def test_first(self):
        self.refuse(mend, self.system, ["made"], {"s": [self.big, self.small]})
        self.refuse(mend, self.system, [], {"s": [self.big]})
        self.refuse(mend, self.system, (), {})

    def test_after_the_one_that_is_told(self):
        told = mend(self.system, ["made"], {"s": [self.small, self.big]})
        self.assertEqual(told, {"s": self.small})
        self.assertEqual(mend(self.system, (), {"s": [self.small, self.big]}), {"s": self.small})

    def test_ahead_of_the_one_that_would_be_told(self):
        # With the first choice some end is so, the second has more states.
        self.assertEqual(judge(self.system.with_ways({"s": self.small}), "again")[0], "breaks")
        self.refuse(mend, self.system, ["again"], {"s": [self.small, self.big, self.small]})

    def test_none_is_told(self):
        self.refuse(mend, self.system, ["again"], {"s": [self.small, self.small, self.big]})
        self.assertIsNone(mend(self.system, ["again"], {"s": [self.small, self.small]}))

    def test_the_system_itself_does_not_matter(self):
        # Its own ways are no choice.
        self.assertEqual(mend(self.system, ["made"], {"s": [self.small]}), {"s": self.small})


class TestNoBound(unittest.TestCase):
    def test_looks_and_states(self):
        system = too_many()
        states = states_from(system, system.begin)
        self.assertIs(is_full(system, states), True)
        self.assertIs(is_full(system, states[:-1]), False)
        paper = []
        for state in states:
            lines = [bars(system, state, step) for step in system.all_steps]
            paper.append((state, system.all_steps, tuple(told[0][0] if told else None for told in lines)))
        self.assertIs(is_short(system, paper), True)
        self.assertIs(is_short(system, paper[:-1]), False)
        end = [state for state in states if not system.possible(state)][0]
        self.assertEqual(len(seen(system, end)), 2)
        self.assertEqual(face_of(end)[0], end[0])
        for word in Words.ALL:
            self.assertIn(is_so(system, end, word), (True, False))

    def test_a_call_that_raises_changes_nothing(self):
        system = too_many()
        for _ in range(2):
            with self.assertRaises(TooMany):
                ends(system)
        self.assertEqual(system, too_many())
        self.assertEqual(system.begin, too_many().begin)
        self.assertEqual(len(ends(adder_system())), 2)


if __name__ == "__main__":
    unittest.main()
