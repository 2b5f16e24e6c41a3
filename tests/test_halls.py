"""Halls: steps that are done, undone and redone, and trials [80]."""

import random
import unittest

from oncepost.errors import NotPlayed, OutOfRange
from oncepost.halls import Hall, LoggedHall
from tests.draws import drawn_spec, drawn_steps, system_of
from tests.samples import adder_system, odd_values

TAKE, COMMIT, ANSWER = ("take", "add"), ("commit", "adder"), ("answer", "add")
RELAY, MARK, CRASH = ("relay", "adder", "told"), ("mark", "adder", "told"), ("crash", "adder")
STEPS = (TAKE, COMMIT, RELAY, MARK, ANSWER)


class OneError(Exception):
    pass


class OtherError(BaseException):
    """An exception of a class of its own, not below Exception."""


def shown(hall):
    """All that a hall shows."""
    told = (hall.system, hall.state, hall.schedule, hall.undone, hall.depth)
    return (*told, hall.texts) if isinstance(hall, LoggedHall) else told


class HallCase(unittest.TestCase):
    """Each test is run with a plain hall and with a logged one."""

    def halls(self, system=None):
        return [made(system or adder_system(crashes=1)) for made in (Hall, LoggedHall)]

    def holds(self, hall, schedule, undone, depth=0):
        self.assertEqual(hall.schedule, tuple(schedule))
        self.assertIsInstance(hall.schedule, tuple)
        self.assertEqual(hall.state, hall.system.play(*schedule))
        self.assertEqual((hall.undone, hall.depth), (undone, depth))
        # True and False are no numbers.
        self.assertNotIsInstance(hall.undone, bool)
        if isinstance(hall, LoggedHall):
            fresh = LoggedHall(hall.system)
            fresh.do(*schedule)
            self.assertEqual(hall.texts, fresh.texts)


class TestDo(HallCase):
    def test_begin(self):
        for hall in self.halls():
            self.assertEqual(hall.system, adder_system(crashes=1))
            self.holds(hall, (), 0)

    def test_none_one_and_several_steps(self):
        for hall in self.halls():
            self.assertIsNone(hall.do(TAKE))
            self.holds(hall, [TAKE], 0)
            self.assertIsNone(hall.do())
            self.holds(hall, [TAKE], 0)
            self.assertIsNone(hall.do(COMMIT, RELAY, MARK))
            self.holds(hall, STEPS[:4], 0)
            hall.do(ANSWER)
            self.holds(hall, STEPS, 0)
            # Four changes, one of them without steps.
            for left in (STEPS[:4], STEPS[:1], STEPS[:1], ()):
                self.assertIsNone(hall.undo())
                self.assertEqual(hall.schedule, left)
            self.holds(hall, (), 4)
            self.assertIsNone(hall.redo(4))
            self.holds(hall, STEPS, 0)

    def test_a_step_that_is_not_possible(self):
        for hall in self.halls():
            hall.do(TAKE)
            hall.do(COMMIT)
            hall.undo()
            before = shown(hall)
            wrong = [None, True, 0, "", "commit", (), [], list(COMMIT), ("commit", "add"), TAKE, {}, (COMMIT,), COMMIT[:1]]
            for value in wrong + odd_values():
                for steps in ((value,), (COMMIT, value), (COMMIT, RELAY, value, None), (COMMIT, value, RELAY)):
                    with self.assertRaises(NotPlayed) as caught:
                        hall.do(*steps)
                    self.assertEqual(caught.exception.index, steps.index(value))
                    self.assertEqual(shown(hall), before)
            # What can be redone is still there.
            hall.redo()
            self.holds(hall, [TAKE, COMMIT], 0)

    def test_do_ends_what_can_be_redone(self):
        for hall in self.halls():
            hall.do(TAKE)
            hall.do(COMMIT)
            hall.undo(2)
            self.holds(hall, (), 2)
            hall.do()
            self.holds(hall, (), 0)
            hall.do(TAKE, CRASH)
            hall.undo()
            hall.do(TAKE)
            self.holds(hall, [TAKE], 0)
            with self.assertRaises(OutOfRange):
                hall.redo()


class TestUndoRedo(HallCase):
    def test_every_count(self):
        for hall in self.halls():
            for step in STEPS:
                hall.do(step)
            for count in range(6):
                self.assertIsNone(hall.undo(count))
                self.holds(hall, STEPS[:5 - count], count)
                for again in range(count + 1):
                    self.assertIsNone(hall.redo(again))
                    self.holds(hall, STEPS[:5 - count + again], count - again)
                    hall.undo(count=again)
                hall.redo(count=count)
            self.holds(hall, STEPS, 0)

    def test_out_of_range(self):
        for hall in self.halls():
            hall.do(TAKE)
            hall.do(COMMIT)
            hall.do(RELAY)
            hall.undo(1)
            before = shown(hall)
            wrong = [-1, True, False, None, "1", (1,), [], {}, 10 ** 100, -10 ** 100] + odd_values()
            for call, most in ((hall.undo, 2), (hall.redo, 1)):
                for value in wrong + [most + 1]:
                    with self.assertRaises(OutOfRange) as caught:
                        call(value)
                    self.assertIs(caught.exception.count, value)
                    self.assertEqual(shown(hall), before)
            fresh = hall.__class__(hall.system)
            for call in (fresh.undo, fresh.redo):
                with self.assertRaises(OutOfRange) as caught:
                    call()
                self.assertEqual(caught.exception.count, 1)
                self.assertIsNone(call(0))

    def test_zero_ends_nothing(self):
        for hall in self.halls():
            hall.do(TAKE)
            hall.undo()
            hall.undo(0)
            hall.redo(0)
            self.holds(hall, (), 1)

    def test_drawn_runs(self):
        for seed in range(60):
            draw = random.Random(seed)
            for hall in self.halls(system_of(drawn_spec(seed, most_faults=2))):
                # A plain model: the changes that are done, and those that are undone.
                done, undone = [], []
                for _ in range(25):
                    choice = draw.randrange(5)
                    if choice < 3:
                        state, steps = hall.state, []
                        for _ in range(draw.randint(0, 3)):
                            possible = hall.system.possible(state)
                            steps += [draw.choice(possible)] if possible else []
                            state = hall.system.after(state, steps[-1]) if possible else state
                        hall.do(*steps)
                        done, undone = [*done, steps], []
                    elif choice == 3:
                        count = draw.randint(0, len(done))
                        hall.undo(count)
                        undone += [done.pop() for _ in range(count)]
                    else:
                        count = draw.randint(0, len(undone))
                        hall.redo(count)
                        done += [undone.pop() for _ in range(count)]
                    self.holds(hall, sum(done, []), len(undone))


class TestTrials(HallCase):
    def test_attempt(self):
        for hall in self.halls():
            hall.do(TAKE)

            def action(given):
                self.assertIs(given, hall)
                self.holds(hall, [TAKE], 0, 1)
                given.do(COMMIT)
                given.do(RELAY)
                self.holds(hall, [TAKE, COMMIT, RELAY], 0, 1)
                return ["told"]

            self.assertEqual(hall.attempt(action), ["told"])
            self.holds(hall, [TAKE, COMMIT, RELAY], 0)
            # Each change stays by itself.
            hall.undo()
            self.holds(hall, [TAKE, COMMIT], 1)
            hall.undo()
            self.holds(hall, [TAKE], 2)

    def test_an_exception_that_leaves_it(self):
        for hall in self.halls():
            for step in STEPS[:4]:
                hall.do(step)
            hall.undo(2)
            before = shown(hall)

            for error in (OneError("x"), OtherError(), KeyError(1), StopIteration(), KeyboardInterrupt(), NotPlayed(7)):

                def action(given):
                    given.undo()
                    given.do(CRASH)
                    given.do(TAKE)
                    self.holds(hall, [TAKE, CRASH, TAKE], 0, 1)
                    raise error

                for call in (hall.attempt, hall.explore):
                    with self.assertRaises(BaseException) as caught:
                        call(action)
                    self.assertIs(caught.exception, error)
                    self.assertEqual(shown(hall), before)
            hall.redo(2)
            self.holds(hall, STEPS[:4], 0)
            hall.undo(4)
            self.holds(hall, (), 4)

    def test_an_error_of_the_hall_itself(self):
        for hall in self.halls():
            hall.do(TAKE)
            for action in (lambda given: given.do(COMMIT, TAKE), lambda given: (given.do(COMMIT), given.undo(3))):
                with self.assertRaises((NotPlayed, OutOfRange)):
                    hall.attempt(action)
                self.holds(hall, [TAKE], 0)

    def test_an_exception_that_is_caught(self):
        for hall in self.halls():

            def action(given):
                given.do(TAKE)
                try:
                    given.do(TAKE)
                except NotPlayed:
                    given.do(COMMIT)
                try:
                    given.attempt(wrong)
                except OneError:
                    self.holds(hall, [TAKE, COMMIT], 0, 1)
                return 1

            def wrong(given):
                given.do(ANSWER)
                self.holds(hall, [TAKE, COMMIT, ANSWER], 0, 2)
                given.undo(2)
                raise OneError

            self.assertEqual(hall.attempt(action), 1)
            self.holds(hall, [TAKE, COMMIT], 0)

    def test_explore(self):
        for hall in self.halls():
            for step in STEPS[:3]:
                hall.do(step)
            hall.undo()
            before = shown(hall)

            def action(given):
                given.do(ANSWER)
                given.do(RELAY, MARK)
                self.holds(hall, [TAKE, COMMIT, ANSWER, RELAY, MARK], 0, 1)
                return given.state

            told = hall.explore(action=action)
            self.assertEqual(told, hall.system.play(TAKE, COMMIT, ANSWER, RELAY, MARK))
            self.assertEqual(shown(hall), before)
            # What can be redone, too.
            hall.redo()
            self.holds(hall, STEPS[:3], 0)
            hall.undo(3)
            self.holds(hall, (), 3)

    def test_undo_and_redo_in_trials_beyond_their_beginning(self):
        for hall in self.halls():
            for step in STEPS[:3]:
                hall.do(step)
            hall.undo(1)
            before = shown(hall)

            def action(given):
                given.redo(1)
                self.holds(hall, STEPS[:3], 0, 1)
                given.undo(3)
                self.holds(hall, (), 3, 1)
                with self.assertRaises(OutOfRange):
                    given.undo()
                given.redo(1)
                self.holds(hall, [TAKE], 2, 1)

            self.assertIsNone(hall.explore(action))
            self.assertEqual(shown(hall), before)
            self.assertIsNone(hall.attempt(action))
            self.holds(hall, [TAKE], 2)
            hall.redo(2)
            self.holds(hall, STEPS[:3], 0)

    def test_nested(self):
        for hall in self.halls():
            hall.do(TAKE)

            def innermost(given):
                self.assertEqual(given.depth, 3)
                given.undo(2)
                given.do()
                return "end"

            def inner(given):
                self.assertEqual(given.depth, 2)
                given.do(RELAY)
                self.assertEqual(given.explore(innermost), "end")
                self.holds(hall, [TAKE, COMMIT, RELAY], 0, 2)
                given.undo()
                return given.explore(lambda one: one.explore(lambda other: other.depth))

            def outer(given):
                given.do(COMMIT)
                told = given.attempt(inner)
                self.holds(hall, [TAKE, COMMIT], 1, 1)
                return told

            before = shown(hall)
            self.assertEqual(hall.explore(outer), 4)
            self.assertEqual(shown(hall), before)
            self.assertEqual(hall.attempt(outer), 4)
            self.holds(hall, [TAKE, COMMIT], 1)
            hall.redo()
            self.holds(hall, [TAKE, COMMIT, RELAY], 0)

    def test_an_outer_exception_takes_back_inner_attempts(self):
        for hall in self.halls():
            hall.do(TAKE)
            before = shown(hall)

            def outer(given):
                given.attempt(lambda one: one.do(COMMIT))
                given.attempt(lambda one: one.do(ANSWER))
                given.undo(3)
                self.holds(hall, (), 3, 1)
                raise OneError

            with self.assertRaises(OneError):
                hall.attempt(outer)
            self.assertEqual(shown(hall), before)

    def test_drawn_trials(self):
        for seed in range(40):
            for hall in self.halls(system_of(drawn_spec(seed, most_faults=2))):
                self.run_drawn(hall, random.Random(seed), 4)

    def run_drawn(self, hall, draw, deep):
        """Changes drawn at random, and trials in which the same happens, each held against what was before."""
        for _ in range(5):
            choice = draw.randrange(6)
            possible = hall.system.possible(hall.state)
            if choice < 2 and possible:
                hall.do(draw.choice(possible))
            elif choice == 2 and hall.schedule:
                hall.undo()
            elif choice == 3 and hall.undone:
                hall.redo(draw.randint(0, hall.undone))
            elif choice > 3 and deep:
                self.try_drawn(hall, draw, deep)

    def try_drawn(self, hall, draw, deep):
        before, left = shown(hall), []
        fails = draw.randrange(2)

        def action(given):
            self.assertEqual(given.depth, before[4] + 1)
            self.run_drawn(given, draw, deep - 1)
            left.append(shown(given))
            if fails:
                raise OneError
            return "told"

        call = draw.choice((hall.attempt, hall.explore))
        if fails:
            with self.assertRaises(OneError):
                call(action)
        else:
            self.assertEqual(call(action), "told")
        after = left[0] if call == hall.attempt and not fails else before
        # The depth is as before in any case.
        self.assertEqual(shown(hall), (*after[:4], before[4], *after[5:]))


class TestHalls(HallCase):
    def test_two_halls_of_one_system(self):
        system = adder_system()
        one, other = Hall(system), Hall(system=system)
        one.do(TAKE)
        self.assertEqual((other.schedule, other.state), ((), system.begin))
        self.assertEqual(system, adder_system())

    def test_whole_drawn_schedules(self):
        for seed in range(40):
            for hall in self.halls(system_of(drawn_spec(seed, most_faults=3))):
                steps = drawn_steps(hall.system, seed)
                hall.do(*steps)
                self.holds(hall, steps, 0)
                self.assertEqual(hall.system.possible(hall.state), [])
                with self.assertRaises(NotPlayed):
                    hall.do(("take", "k"))


if __name__ == "__main__":
    unittest.main()
