"""Bars against a plain reading of point 43, and a few by hand."""

import unittest

from oncepost.errors import NoWord
from oncepost.papers import bars
from oncepost.systems import Service, System
from oncepost.ways import Ways
from tests.draws import drawn_spec, drawn_steps, system_of
from tests.reading import Reading
from tests.samples import adder_system, odd_values

OUT = ("out", "adder", "told")
HAND = ("hand", "adder")
LOSS = ("loss", "adder")


class TestAgainstReading(unittest.TestCase):
    def test_each_step_in_each_state_of_drawn_schedules(self):
        forms = set()
        for seed in range(150):
            spec = drawn_spec(seed, most_faults=2)
            system = system_of(spec)
            reading = Reading(spec, system)
            steps = drawn_steps(system, seed)
            for many in range(len(steps) + 1):
                state = system.play(*steps[:many])
                possible = system.possible(state)
                for step in system.all_steps:
                    told = bars(system, state, step)
                    if step in possible:
                        self.assertEqual(told, [])
                        continue
                    with self.subTest(seed, many=many, step=step):
                        self.assertEqual(told, reading.bars(state, step))
                        self.assertTrue(told)
                    forms.add((step[0], tuple((line[0], asked != ()) for line, asked in told)))
        self.assertEqual(
            forms,
            {
                ("take", (("hand", True),)),
                ("take", (("log", True),)),
                ("take", (("hand", True), ("log", True))),
                ("commit", (("hand", True),)),
                ("post", (("hand", True),)),
                ("note", (("hand", True),)),
                ("answer", (("hand", True),)),
                ("relay", (("out", True),)),
                ("mark", (("out", True),)),
                ("lose", (("loss", False),)),
                ("lose", (("out", True),)),
                ("lose", (("hand", True),)),
                ("lose", (("loss", False), ("out", True))),
                ("lose", (("hand", True), ("loss", False))),
                ("crash", (("hand", False),)),
                ("crash", (("hand", True),)),
            },
        )

    def test_a_bar_that_is_not_spent_asks_for_the_step_itself(self):
        for seed in range(40):
            system = system_of(drawn_spec(seed, most_faults=2))
            for step in system.all_steps:
                for line, asked in bars(system, system.begin, step):
                    self.assertIn(line, system.lines_of(step))
                    self.assertTrue(asked == () or step in asked)


class TestByHand(unittest.TestCase):
    def test_begin(self):
        system = adder_system(crashes=1).with_budgets([(1, 1)])
        state = system.begin
        hand = (("take", "add"), ("commit", "adder"), ("answer", "add"), ("crash", "adder"))
        out = tuple((head, "adder", "told") for head in ("relay", "mark", "lose"))
        near_out = (("commit", "adder"), *out, ("crash", "adder"))
        near_crash = (*hand[:3], *out, ("crash", "adder"))
        told = {
            ("take", "add"): [],
            ("commit", "adder"): [(HAND, hand)],
            ("answer", "add"): [(HAND, hand)],
            ("relay", "adder", "told"): [(OUT, near_out)],
            ("mark", "adder", "told"): [(OUT, near_out)],
            ("lose", "adder", "told"): [(OUT, near_out)],
            ("crash", "adder"): [(HAND, near_crash)],
        }
        self.assertEqual(set(told), set(system.all_steps))
        for step, lines in told.items():
            self.assertEqual(bars(system, state, step), lines)
        # Without budgets.
        none = system.with_budgets([(0, 0)])
        self.assertEqual(bars(none, none.begin, ("crash", "adder")), [(HAND, ())])
        self.assertEqual(bars(none, none.begin, ("lose", "adder", "told")), [(LOSS, ()), (OUT, near_out)])
        self.assertEqual(bars(step=("crash", "adder"), state=none.begin, system=none), [(HAND, ())])

    def test_take(self):
        system = adder_system(crashes=1)
        hand = (("take", "add"), ("commit", "adder"), ("answer", "add"), ("crash", "adder"))
        log = (("take", "add"), ("answer", "add"))
        taken = system.play(("take", "add"))
        self.assertEqual(bars(system, taken, ("take", "add")), [(HAND, hand)])
        done = system.play(("take", "add"), ("commit", "adder"), ("answer", "add"))
        self.assertEqual(bars(system, done, ("take", "add")), [(("log", "add"), log)])
        ahead = adder_system(way=("outbox", "inbox", "ahead", "behind"))
        both = ahead.play(("take", "add"), ("answer", "add"))
        self.assertEqual(bars(ahead, both, ("take", "add")), [(HAND, hand), (("log", "add"), log)])

    def test_an_answer_of_another_kind(self):
        system = System(["a", "b"], [Service("s", {"a": (), "b": ()})], [("a", "k", 1), ("b", "k", 1)])
        state = system.play(("take", "b"), ("commit", "s"))
        self.assertEqual([line for line, _ in bars(system, state, ("answer", "a"))], [("hand", "s")])
        self.assertEqual(bars(system, state, ("answer", "b")), [])

    def test_a_lose_of_a_post(self):
        system = adder_system(way=("after", "plain", "behind", "behind")).with_budgets([(0, 1)])
        lose = ("lose", "adder", "told")
        state = system.play(("take", "add"), ("commit", "adder"))
        self.assertEqual(bars(system, state, lose), [])
        lost = system.after(state, lose)
        self.assertEqual(bars(system, lost, lose), [(LOSS, ())])
        posted = system.after(lost, ("post", "adder", "told"))
        self.assertEqual([line for line, _ in bars(system, posted, lose)], [HAND, LOSS])

    def test_a_crash_with_what_is_held_alone(self):
        system = adder_system(crashes=2)
        state = system.play(("take", "add"), ("commit", "adder"), ("answer", "add"))
        self.assertEqual([line for line, _ in bars(system, state, ("crash", "adder"))], [HAND])
        held = system.after(state, ("relay", "adder", "told"))
        self.assertEqual(bars(system, held, ("crash", "adder")), [])


class TestNoWord(unittest.TestCase):
    def test_any_value(self):
        system = adder_system()
        wrong = [None, True, 0, "", "take", (), ("take",), ("take", "told"), ("take", "adder"), ("post", "adder", "told")]
        wrong += [("note", "adder"), ["take", "add"], ("take", ["add"]), ("take", "add", "add"), ("commit", True)]
        wrong += [("crash", "told"), ("relay", "adder", "add"), ("lose", "told", "adder"), [("take", "add")], HAND]
        for value in wrong + odd_values():
            for state in (system.begin, system.play(("take", "add"))):
                with self.assertRaises(NoWord) as caught:
                    bars(system, state, value)
                self.assertIs(caught.exception.word, value)

    def test_new_lists(self):
        for way in Ways.every():
            system = adder_system(way=way)
            for step in system.all_steps:
                first = bars(system, system.begin, step)
                kept = list(first)
                self.assertIsInstance(first, list)
                first.append(None)
                self.assertEqual(bars(system, system.begin, step), kept)


if __name__ == "__main__":
    unittest.main()
