"""Full and short papers, and the looks that accept them [4] [42]."""

import random
import unittest

from oncepost.papers import bars, full_paper, is_full, is_short, short_paper
from oncepost.systems import Service, System
from tests.chains import separate
from tests.draws import system_of
from tests.listing import drawn_listings, drawn_ways, states_from
from tests.reading import Reading
from tests.samples import adder_system, odd_values, part_at, paths, replaced


def small_readings(seeds, most=120):
    """Systems drawn at random with few states, each with a plain reading and its states."""
    for seed in seeds:
        spec = drawn_ways(seed)
        system = system_of(spec)
        states = states_from(system, system.begin)
        if 4 < len(states) <= most:
            yield seed, Reading(spec, system), system, states


def with_bools(state):
    """States that are equal to one, but for a bool in the place of a number."""
    found = []
    for path in paths(state):
        if part_at(state, path) in (0, 1):
            found.append(replaced(state, path, bool(part_at(state, path))))
    return found


def with_lists(state):
    """The state with a list in the place of each tuple in turn."""
    return [replaced(state, path, list(part)) for path in paths(state) if isinstance(part := part_at(state, path), tuple)]


class TestFull(unittest.TestCase):
    def test_the_one_that_is_told(self):
        for seed, _, listing in drawn_listings(range(0, 432, 6)):
            told = full_paper(listing.system)
            with self.subTest(seed):
                self.assertIsInstance(told, list)
                self.assertEqual(len(told), len(listing.states))
                self.assertEqual(set(told), listing.states)
                self.assertIs(is_full(listing.system, told), True)

    def test_other_orders(self):
        accepted, refused = 0, 0
        for seed, _, system, states in small_readings(range(0, 200, 2), 60):
            before = {state: [] for state in states}
            for state in states:
                for step in system.possible(state):
                    before[system.after(state, step)].append(state)
            draw = random.Random(seed)
            for _ in range(6):
                order = states[:1] + draw.sample(states[1:], len(states) - 1)
                right = all(
                    any(one in order[:at] for one in before[state]) for at, state in enumerate(order) if at > 0
                )
                self.assertIs(is_full(system, order), right)
                refused += not right
                # One that is allowed: each time any state that is led to by then.
                order, waiting = states[:1], states[1:]
                while waiting:
                    ready = [state for state in waiting if any(one in order for one in before[state])]
                    order.append(draw.choice(ready))
                    waiting.remove(order[-1])
                self.assertIs(is_full(system, order), True)
                accepted += order != states
        self.assertGreater(min(accepted, refused), 50)

    def test_left_out_twice_and_none(self):
        for _, _, system, states in small_readings(range(60), 40):
            for at, state in enumerate(states):
                without = states[:at] + states[at + 1:]
                self.assertIs(is_full(system, without), False)
                for place in range(0, len(states) + 1, 3):
                    self.assertIs(is_full(system, states[:place] + [state] + states[place:]), False)
            # A state that no step leads to: of other budgets, or without what was put into an inbox.
            self.assertIs(is_full(system, states + [(states[-1][0], ())]), False)

    def test_a_state_that_no_step_leads_to(self):
        system = adder_system(crashes=1)
        states = full_paper(system)
        for other in full_paper(adder_system(crashes=2)):
            if other not in states:
                self.assertIs(is_full(system, states + [other]), False)
        commands = System(system.kinds, system.services, [("add", "k", 4)])
        self.assertIs(is_full(system, full_paper(commands)), False)
        self.assertIs(is_full(commands, full_paper(commands)), True)

    def test_the_beginning_first(self):
        system = adder_system(crashes=0)
        states = full_paper(system)
        self.assertIs(is_full(system, states[1:] + states[:1]), False)
        self.assertIs(is_full(system, [states[1], states[0], *states[2:]]), False)
        self.assertIs(is_full(system, [states[0], *states[2:], states[1]]), False)

    def test_kinds_of_values(self):
        system = adder_system(crashes=1)
        states = full_paper(system)
        self.assertIs(is_full(system, tuple(states)), False)
        for at, state in enumerate(states):
            for other in with_bools(state) + with_lists(state):
                self.assertIs(is_full(system, states[:at] + [other] + states[at + 1:]), False)
        self.assertTrue(all(other == state for state in states for other in with_bools(state)))
        for value in [None, True, 0, "", (), [], [()], {}, {state: 1 for state in states}, [states], states[0]]:
            self.assertIs(is_full(system, value), False)
        for value in odd_values():
            self.assertIs(is_full(system, value), False)
            self.assertIs(is_full(system, [value]), False)
            self.assertIs(is_full(system, [*states, value]), False)
            self.assertIs(is_full(system, [*states[:-1], value]), False)

    def test_one_state(self):
        system = System(["a"], [Service("s", {"a": ()})])
        self.assertEqual(full_paper(system), [system.begin])
        self.assertIs(is_full(system, [system.begin]), True)
        self.assertIs(is_full(system, []), False)
        self.assertIs(is_full(value=[system.begin], system=system), True)


def wide_paper(reading, states):
    """The paper of all states with all steps of the system in each, and the first bar of each that is not possible."""
    paper = []
    for state in states:
        possible = reading.system.possible(state)
        lines = [None if step in possible else reading.bars(state, step)[0][0] for step in reading.steps]
        paper.append((state, tuple(reading.steps), tuple(lines)))
    return paper


def drawn_paper(reading, draw):
    """A paper whose states go on with some steps that hold to the rules, drawn at random, not the fewest."""
    states = [reading.system.begin]
    paper = []
    for state in states:
        possible = reading.system.possible(state)
        chosen, waiting = {}, draw.sample(reading.steps, draw.randint(0, 1)) + possible[:0]
        waiting += [draw.choice(possible)] if possible else []
        while waiting:
            step = waiting.pop()
            if step in chosen:
                continue
            line, asked = (None, reading.near[step]) if step in possible else draw.choice(reading.bars(state, step))
            chosen[step] = line
            waiting.extend(asked)
        steps = tuple(step for step in reading.steps if step in chosen)
        paper.append((state, steps, tuple(chosen[step] for step in steps)))
        for step in steps:
            if step in possible:
                after = reading.system.after(state, step)
                if after not in states:
                    states.append(after)
    return paper


class TestShort(unittest.TestCase):
    def ends_in(self, system, paper):
        return {entry[0] for entry in paper if not system.possible(entry[0])}

    def test_the_one_that_is_told(self):
        shorter = 0
        for seed, spec, listing in drawn_listings(range(0, 432, 2), 800):
            system = listing.system
            told = short_paper(system)
            with self.subTest(seed):
                self.assertIsInstance(told, list)
                self.assertIs(is_short(system, told), True)
                self.assertEqual(self.ends_in(system, told), {end for _, end in listing.whole})
                if seed % 4 == 0:
                    self.assertIs(Reading(spec, system).accepts(told), True)
            shorter += len(told) < len(listing.states)
        self.assertGreater(shorter, 25)

    def test_it_is_short(self):
        system = separate(4, crashes=0)
        self.assertEqual(len(full_paper(system)), 625)
        self.assertEqual(len(short_paper(system)), 17)

    def test_others_that_hold(self):
        several = 0
        for seed, reading, system, states in small_readings(range(0, 300, 4)):
            ends = self.ends_in(system, [(state,) for state in states])
            draw = random.Random(seed)
            papers = [wide_paper(reading, states)] + [drawn_paper(reading, draw) for _ in range(4)]
            for paper in papers:
                with self.subTest(seed):
                    self.assertIs(reading.accepts(paper), True)
                    self.assertIs(is_short(system, paper), True)
                    self.assertEqual(self.ends_in(system, paper), ends)
            several += len({len(paper) for paper in papers}) > 1
        self.assertGreater(several, 3)

    def changed(self, reading, paper, draw):
        """The paper with one entry changed at random."""
        at = draw.randrange(len(paper))
        state, steps, lines = paper[at]
        steps, lines = list(steps), list(lines)
        choice = draw.randrange(7)
        if choice < 2 and steps:
            gone = draw.randrange(len(steps))
            del steps[gone], lines[gone]
        elif choice < 4:
            step = draw.choice(reading.steps)
            place = len([one for one in steps if reading.steps.index(one) < reading.steps.index(step)])
            possible = reading.system.possible(state)
            line = None if step in possible else draw.choice(reading.bars(state, step))[0]
            if step not in steps:
                steps.insert(place, step)
                lines.insert(place, line)
        elif choice == 4 and steps:
            lines[draw.randrange(len(steps))] = draw.choice([None, *reading.with_line])
        elif choice == 5:
            other = draw.choice(paper)
            state = other[0]
        else:
            changed = paper[:at] + paper[at + 1:]
            return changed[:1] + draw.sample(changed[1:], len(changed[1:])) if draw.randrange(2) else changed
        return paper[:at] + [(state, tuple(steps), tuple(lines))] + paper[at + 1:]

    def test_against_a_plain_look(self):
        told = {True: 0, False: 0}
        for seed, reading, system, states in small_readings(range(1, 300, 3), 60):
            draw = random.Random(seed)
            for _ in range(25):
                paper = draw.choice([short_paper(system), wide_paper(reading, states), drawn_paper(reading, draw)])
                for _ in range(draw.randint(1, 2)):
                    paper = self.changed(reading, paper, draw) if paper else paper
                right = reading.accepts(paper)
                with self.subTest(seed, paper=paper):
                    self.assertIs(is_short(system, paper), right)
                if right:
                    self.assertEqual(self.ends_in(system, paper), self.ends_in(system, [(one,) for one in states]))
                told[right] += 1
        self.assertGreater(min(told.values()), 150)


TAKE, COMMIT, ANSWER = ("take", "add"), ("commit", "adder"), ("answer", "add")
RELAY, MARK, LOSE = [(head, "adder", "told") for head in ("relay", "mark", "lose")]
CRASH = ("crash", "adder")
HAND, OUT, LOSS = ("hand", "adder"), ("out", "adder", "told"), ("loss", "adder")
LOG = ("log", "add")


class TestShortByHand(unittest.TestCase):
    """A short paper of the adder without faults, written out; then each of (a) to (d) broken alone."""

    def setUp(self):
        self.system = adder_system(crashes=0)
        # The hand first, then the outbox: six states, one after the other.
        play = self.system.play
        near_hand = (TAKE, COMMIT, ANSWER, CRASH)
        # With a commit that is possible goes all that has its lines.
        near_commit = (TAKE, COMMIT, ANSWER, RELAY, MARK, LOSE, CRASH)
        at_commit = (HAND, None, HAND, OUT, OUT, LOSS, HAND)
        near_out = (COMMIT, RELAY, MARK, LOSE, CRASH)
        self.paper = [
            (play(), near_hand, (None, HAND, HAND, HAND)),
            (play(TAKE), near_commit, at_commit),
            (play(TAKE, COMMIT), near_hand, (HAND, HAND, None, HAND)),
            (play(TAKE, COMMIT, ANSWER), (*near_hand[:3], RELAY, MARK, LOSE, CRASH), (LOG, HAND, HAND, None, OUT, LOSS, HAND)),
            (play(TAKE, COMMIT, ANSWER, RELAY), (*near_hand[:3], RELAY, MARK, LOSE, CRASH), (LOG, HAND, HAND, OUT, None, OUT, HAND)),
            (play(TAKE, COMMIT, ANSWER, RELAY, MARK), (), ()),
        ]
        self.near_out = near_out

    def look(self, *entries):
        paper = list(entries)
        before = repr(paper)
        told = is_short(self.system, paper)
        self.assertEqual(repr(paper), before)
        return told

    def other(self, at, steps, lines):
        """The paper with other steps in an entry."""
        return [*self.paper[:at], (self.paper[at][0], tuple(steps), tuple(lines)), *self.paper[at + 1:]]

    def test_it_holds(self):
        self.assertIs(self.look(*self.paper), True)
        for at, (state, steps, lines) in enumerate(self.paper):
            for step, line in zip(steps, lines):
                told = [bar for bar, _ in bars(self.system, state, step)]
                self.assertTrue(line in told if told else line is None)

    def test_a_the_states_in_order(self):
        first, second, *others = self.paper
        self.assertIs(self.look(second, first, *others), False)
        self.assertIs(self.look(first, *others, second), False)
        self.assertIs(self.look(*self.paper[:4], self.paper[5], self.paper[4]), False)
        # A state that only a step leads to that is not among those of its entry.
        state = self.system.play(TAKE, COMMIT, RELAY)
        entry = (state, (COMMIT, RELAY, MARK, LOSE, CRASH), (HAND, OUT, None, OUT, HAND))
        self.assertIs(self.look(*self.paper, entry), False)
        # The beginning is not first.
        self.assertIs(self.look(*others), False)
        self.assertIs(self.look(), False)

    def test_b_the_states_after(self):
        for at in range(6):
            self.assertIs(self.look(*self.paper[:at], *self.paper[at + 1:]), False)
        # A state with possible steps, and none of them.
        self.assertIs(self.look(*self.paper[:5], (self.paper[4][0], (), ())), False)
        self.assertIs(self.look((self.paper[0][0], (), ())), False)
        self.assertIs(self.look((self.paper[0][0], (CRASH,), (HAND,))), False)
        self.assertIs(self.look(*self.paper[:3], (self.paper[3][0], (LOSE,), (LOSS,)), *self.paper[4:]), False)

    def test_c_what_is_not_apart(self):
        # Of the entries with a possible step each other step is left out in turn.
        for at in range(5):
            _, steps, lines = self.paper[at]
            for gone in range(len(steps)):
                left = [steps[:gone] + steps[gone + 1:], lines[:gone] + lines[gone + 1:]]
                needed = lines[gone] is None or set(self.system.lines_of(steps[gone])) & {
                    line for one, told in zip(steps, lines) if told is None for line in self.system.lines_of(one)
                }
                asked = [
                    one for one, told in zip(steps, lines)
                    if told is not None and one != steps[gone] and (one, told) not in ((CRASH, HAND), (LOSE, LOSS))
                    and steps[gone] in dict(bars(self.system, self.paper[at][0], one))[told]
                ]
                self.assertIs(self.look(*self.other(at, *left)), not needed and not asked)

    def test_d_the_steps_that_a_bar_asks_for(self):
        # The take is not possible, and its bar asks for the answer; the commit's bar for all of the hand.
        steps, lines = (RELAY, MARK, LOSE, CRASH), (None, OUT, LOSS, HAND)
        self.assertIs(self.look(*self.other(3, (COMMIT, *steps), (HAND, *lines))), False)
        self.assertIs(self.look(*self.other(3, (TAKE, COMMIT, *steps), (LOG, HAND, *lines))), False)
        self.assertIs(self.look(*self.other(3, (COMMIT, ANSWER, *steps), (HAND, HAND, *lines))), False)
        self.assertIs(self.look(*self.other(3, (TAKE, COMMIT, ANSWER, *steps), (LOG, HAND, HAND, *lines))), True)
        # A spent bar asks for nothing.
        self.assertIs(self.look(*self.other(5, (CRASH,), (HAND,))), True)
        self.assertIs(self.look(*self.other(5, (LOSE,), (LOSS,))), True)
        self.assertIs(self.look(*self.other(5, (LOSE, CRASH), (LOSS, HAND))), True)
        # The outbox bars the lose too, and that bar is not spent.
        self.assertIs(self.look(*self.other(5, (LOSE,), (OUT,))), False)
        self.assertIs(self.look(*self.other(5, (TAKE,), (LOG,))), False)
        self.assertIs(self.look(*self.other(5, (TAKE, ANSWER), (LOG, HAND))), False)
        self.assertIs(self.look(*self.other(5, (TAKE, COMMIT, ANSWER, CRASH), (LOG, HAND, HAND, HAND))), True)

    def test_d_a_crash_that_is_left(self):
        # Its bar asks for all steps with one of its lines, not only with the hand.
        system = adder_system(crashes=1)
        paper = short_paper(system)
        states = [entry[0] for entry in paper]
        at = states.index(system.play(TAKE, COMMIT, ANSWER, RELAY, MARK))
        state = states[at]
        hand = ((TAKE, COMMIT, ANSWER, CRASH), (LOG, HAND, HAND, HAND))
        every = ((TAKE, COMMIT, ANSWER, RELAY, MARK, LOSE, CRASH), (LOG, HAND, HAND, OUT, OUT, LOSS, HAND))
        self.assertIs(is_short(system, [*paper[:at], (state, *hand), *paper[at + 1:]]), False)
        self.assertIs(is_short(system, [*paper[:at], (state, *every), *paper[at + 1:]]), True)

    def test_other_lines(self):
        # Another line of the step, a line of other services, kinds, forms; None for a bar, a bar for None.
        wrong = [LOG, OUT, LOSS, None, ("hand", "add"), ("hand",), ("hand", "adder", "told"), ["hand", "adder"], "hand", ()]
        wrong += [("log", "told"), True, 0, [], {}, (HAND,)]
        state, steps, lines = self.paper[0]
        for place in (1, 2, 3):
            for line in wrong + odd_values():
                changed = (*lines[:place], line, *lines[place + 1:])
                self.assertIs(is_short(self.system, self.other(0, steps, changed)), False)
        for line in [HAND, LOG, OUT, True, 0, "", ()] + odd_values():
            self.assertIs(is_short(self.system, self.other(0, steps, (line, *lines[1:]))), False)

    def test_numbers_of_bars(self):
        for at, (state, steps, lines) in enumerate(self.paper):
            self.assertIs(self.look(*self.other(at, steps, (*lines, None))), False)
            self.assertIs(self.look(*self.other(at, steps, (*lines, HAND))), False)
            if lines:
                self.assertIs(self.look(*self.other(at, steps, lines[:-1])), False)
                self.assertIs(self.look(*self.other(at, steps, lines[1:])), False)

    def test_steps(self):
        state, steps, lines = self.paper[0]
        wrong = [
            ((*steps[:1], *steps), (*lines[:1], *lines)),
            ((*steps, CRASH), (*lines, HAND)),
            (steps[::-1], lines[::-1]),
            ((COMMIT, TAKE, *steps[2:]), (HAND, None, *lines[2:])),
            ((*steps, ("note", "adder")), (*lines, HAND)),
            ((*steps, ("post", "adder", "told")), (*lines, HAND)),
            ((("take", "told"), *steps), (LOG, *lines)),
            ((list(TAKE), *steps[1:]), lines),
            (("take", *steps[1:]), lines),
        ]
        for other in wrong:
            self.assertIs(self.look(*self.other(0, *other)), False)
        for value in odd_values():
            self.assertIs(is_short(self.system, self.other(0, (value, *steps[1:]), lines)), False)
        # Steps twice that ask for nothing, at the end.
        for step, line in ((CRASH, HAND), (LOSE, LOSS)):
            self.assertIs(self.look(*self.other(5, (step,), (line,))), True)
            self.assertIs(self.look(*self.other(5, (step, step), (line, line))), False)
        self.assertIs(self.look(*self.other(5, (CRASH, LOSE), (HAND, LOSS))), False)

    def test_a_state_twice(self):
        for at, entry in enumerate(self.paper):
            for place in range(7):
                self.assertIs(self.look(*self.paper[:place], entry, *self.paper[place:]), False)

    def test_kinds_of_values(self):
        self.assertIs(is_short(self.system, tuple(self.paper)), False)
        for at, (state, steps, lines) in enumerate(self.paper):
            wrong = [[state, steps, lines], (state, list(steps), lines), (state, steps, list(lines)), (state, steps)]
            wrong += [(state, steps, lines, ()), (state, None, lines), (state, steps, None), (None, steps, lines), state]
            wrong += [(other, steps, lines) for other in with_bools(state) + with_lists(state)]
            wrong += odd_values() + [(value, steps, lines) for value in odd_values()]
            wrong += [(state, value, lines) for value in odd_values()] + [(state, steps, value) for value in odd_values()]
            for entry in wrong:
                told = is_short(self.system, [*self.paper[:at], entry, *self.paper[at + 1:]])
                self.assertIs(told, False)
        for value in [None, True, 0, "", (), [], {}, [()], self.paper[0], [self.paper]] + odd_values():
            self.assertIs(is_short(self.system, value), False)
            self.assertIs(is_short(self.system, [value]), False)
        self.assertIs(is_short(value=self.paper, system=self.system), True)

    def test_of_other_systems(self):
        self.assertIs(is_short(adder_system(crashes=1), self.paper), False)
        self.assertIs(is_short(self.system.with_budgets([(0, 1)]), self.paper), False)
        other = System(["add", "told"], self.system.services, [("add", "k", 4)])
        self.assertIs(is_short(other, self.paper), False)
        self.assertIs(is_full(self.system, self.paper), False)
        self.assertIs(is_short(self.system, full_paper(self.system)), False)


class TestCalls(unittest.TestCase):
    def test_no_commands(self):
        system = System(["a"], [Service("s", {"a": ()}, crashes=1)])
        self.assertEqual(short_paper(system), [(system.begin, (), ())])
        self.assertIs(is_short(system, [(system.begin, (), ())]), True)
        steps = (("take", "a"), ("commit", "s"), ("answer", "a"), ("crash", "s"))
        lines = (("log", "a"), ("hand", "s"), ("hand", "s"), ("hand", "s"))
        self.assertIs(is_short(system, [(system.begin, steps, lines)]), True)

    def test_new_lists(self):
        system = adder_system()
        for call in (full_paper, short_paper):
            first = call(system=system)
            kept = list(first)
            first.reverse()
            self.assertEqual(call(system), kept)
            call(system).clear()
            self.assertEqual(call(system), kept)

    def test_forms(self):
        for _, _, listing in drawn_listings(range(2, 200, 5)):
            for entry in short_paper(listing.system):
                self.assertIsInstance(entry, tuple)
                state, steps, lines = entry
                self.assertIn(state, listing.states)
                self.assertIsInstance(steps, tuple)
                self.assertIsInstance(lines, tuple)
                self.assertEqual(len(steps), len(lines))


if __name__ == "__main__":
    unittest.main()
