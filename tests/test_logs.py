"""The texts of a hall with logs, against a plain reading of point 81."""

import random
import unittest

from oncepost.halls import LoggedHall
from oncepost.systems import Service, System
from tests.draws import drawn_spec, drawn_steps, system_of
from tests.plain import Plain, played
from tests.samples import adder_system

TAKE, COMMIT, ANSWER = ("take", "add"), ("commit", "adder"), ("answer", "add")
RELAY, MARK, CRASH = ("relay", "adder", "told"), ("mark", "adder", "told"), ("crash", "adder")


def text_names(plain):
    return [f"kind {kind}" for kind in plain.kinds] + [f"service {name}" for name in plain.names]


def text_of(step):
    """The name of the text that a step appends to, or None."""
    if step[0] in ("commit", "note", "mark"):
        return "service " + step[1]
    if step[0] in ("post", "relay", "lose", "answer"):
        return "kind " + step[-1]
    return None


def what_of(plain, step):
    """What the line of a step tells, before the step is done."""
    if step[0] in ("commit", "note"):
        hand = plain.services[step[1]]["hand"]
        return f"{step[0]} {hand['kind']} {hand['place']}"
    if step[0] == "mark":
        return f"mark {step[2]}"
    if step[0] == "answer":
        return "answer"
    entry = plain.published(step)
    _, key, value = entry["message"]
    return f"{step[0]} {step[1]} {','.join(map(str, entry['id']))} {key} {value}"


def befores(plain, steps):
    """For each step the indexes of all before it, by point 31."""
    found = []
    for at, step in enumerate(steps):
        before = set()
        for other in range(at):
            if plain.lines(steps[other]) & plain.lines(step):
                before |= {other} | found[other]
        found.append(before)
    return found


def texts_by_reading(spec, steps):
    """The texts of a schedule: each line is told by itself, from all steps before it."""
    plain = Plain(spec)
    names = text_names(plain)
    texts = dict.fromkeys(names, "")
    numbers = {}
    for at, (step, before) in enumerate(zip(steps, befores(Plain(spec), steps))):
        name = text_of(step)
        if name is not None:
            mine = [other for other in range(at) if text_of(steps[other]) == name]
            numbers[at] = len(mine) + 1
            clock = []
            for one in names:
                clock.append(max([numbers[other] for other in before if text_of(steps[other]) == one], default=0))
            start = f"{numbers[at]} {what_of(plain, step)} {','.join(map(str, clock))} "
            total = 0
            for place in range(len(start)):
                total += (place + 1) * ord(start[place])
            texts[name] += f"{start}{total % 9973}\n"
        plain.do(step)
    return texts


class TestTexts(unittest.TestCase):
    def test_drawn_schedules(self):
        words = {}
        for seed in range(150):
            spec = drawn_spec(seed, most_faults=3)
            system = system_of(spec)
            steps = drawn_steps(system, seed)
            hall = LoggedHall(system)
            hall.do(*steps)
            with self.subTest(seed):
                self.assertEqual(hall.texts, texts_by_reading(spec, steps))
            for text in hall.texts.values():
                for line in text.splitlines():
                    word = line.split(" ")[1]
                    words[word] = words.get(word, 0) + 1
        self.assertEqual(set(words), {"commit", "note", "mark", "answer", "post", "relay", "lose"})
        self.assertGreater(min(words.values()), 20)

    def test_after_each_do_undo_redo_and_trial(self):
        for seed in range(60):
            spec = drawn_spec(seed, most_faults=2)
            system = system_of(spec)
            draw = random.Random(seed)
            hall = LoggedHall(system)

            def check():
                self.assertEqual(hall.texts, texts_by_reading(spec, hall.schedule))

            def some(given):
                for step in drawn_steps_from(system, given.state, draw):
                    given.do(step)
                    check()
                if given.schedule:
                    given.undo()
                    check()

            for call in (some, hall.attempt, hall.explore, hall.attempt):
                call(hall if call == some else some)
                check()
            hall.undo(draw.randint(0, len(hall.schedule) // 2))
            check()
            hall.redo(draw.randint(0, hall.undone))
            check()
            with self.assertRaises(ZeroDivisionError):
                hall.attempt(lambda given: (some(given), 1 // 0))
            check()

    def test_document(self):
        hall = LoggedHall(adder_system(crashes=0))
        self.assertEqual(hall.texts, {"kind add": "", "kind told": "", "service adder": ""})
        hall.do(TAKE, COMMIT, RELAY)
        relay, commit = "1 relay adder 0,0 k 3 0,0,1 3240\n", "1 commit add 0 0,0,0 3717\n"
        self.assertEqual(hall.texts, {"kind add": "", "kind told": relay, "service adder": commit})
        hall.undo()
        self.assertEqual(hall.texts, {"kind add": "", "kind told": "", "service adder": ""})

    def test_each_what(self):
        hall = LoggedHall(adder_system(crashes=1).with_budgets([(1, 1)]))
        hall.do(TAKE, CRASH, TAKE, COMMIT, ("lose", "adder", "told"), RELAY, MARK, ANSWER)
        self.assertEqual(self.whats(hall), {
            "kind add": ["1 answer 0,0,1"],
            "kind told": ["1 lose adder 0,0 k 3 0,0,1", "2 relay adder 0,0 k 3 0,1,1"],
            # The mark comes behind the relay, the answer has no line in common with it.
            "service adder": ["1 commit add 0 0,0,0", "2 mark told 0,2,1"],
        })
        late = LoggedHall(adder_system(crashes=0, way=("after", "late", "ahead", "behind")))
        late.do(TAKE, ANSWER, COMMIT, ("post", "adder", "told"), ("note", "adder"))
        self.assertEqual(self.whats(late), {
            "kind add": ["1 answer 0,0,0"],
            "kind told": ["1 post adder 0,0 k 3 1,0,1"],
            "service adder": ["1 commit add 0 1,0,0", "2 note add 0 1,1,1"],
        })

    def whats(self, hall):
        """The lines of each text without their sums."""
        return {name: [line.rsplit(" ", 1)[0] for line in text.splitlines()] for name, text in hall.texts.items()}

    def test_a_line_of_its_own_text_that_is_not_before(self):
        # The note and the mark are apart, though both are in the text of the service.
        hall = LoggedHall(adder_system(crashes=0, way=("outbox", "late", "behind", "ahead")))
        hall.do(TAKE, COMMIT, MARK, ("note", "adder"), RELAY, ANSWER)
        self.assertEqual(self.whats(hall), {
            "kind add": ["1 answer 0,0,3"],
            "kind told": ["1 relay adder 0,0 k 3 0,0,2"],
            "service adder": ["1 commit add 0 0,0,0", "2 mark told 0,0,1", "3 note add 0 0,0,1"],
        })

    def test_negative_values_and_long_numbers(self):
        # Each of four commands sends three messages; three of these are published twice.
        handler = tuple(("send", "b", "key", ("value", value)) for value in (-99, 10, 0))
        way = ("outbox", "plain", "behind", "behind")
        services = [Service("s", {"a": handler}, way, losses=3), Service("t", {"b": ()}, way)]
        system = System(["a", "b"], services, [("a", "k", -1)] * 4)
        steps = []
        state = system.begin
        while system.possible(state):
            # Losses as soon as they are possible.
            possible = system.possible(state)
            step = ([one for one in possible if one[0] == "lose"] + possible)[0]
            steps.append(step)
            state = system.after(state, step)
        hall = LoggedHall(system)
        hall.do(*steps)
        lines = hall.texts["kind b"].splitlines()
        self.assertEqual(len(lines), 30)
        self.assertTrue(lines[0].startswith("1 lose s 0,0 key -99 "))
        self.assertIn(" s 3,2 key 0 ", hall.texts["kind b"])
        self.assertIn("15 commit b 14 ", hall.texts["service t"])
        spec = {
            "kinds": ["a", "b"],
            "services": [
                {"name": "s", "handlers": {"a": handler}, "way": way, "crashes": 0, "losses": 3},
                {"name": "t", "handlers": {"b": ()}, "way": way, "crashes": 0, "losses": 0},
            ],
            "commands": [("a", "k", -1)] * 4,
        }
        self.assertEqual(hall.texts, texts_by_reading(spec, steps))

    def test_a_new_dict_each_time(self):
        hall = LoggedHall(adder_system())
        hall.do(TAKE, COMMIT)
        first = hall.texts
        self.assertIsNot(hall.texts, first)
        kept = dict(first)
        first.clear()
        self.assertEqual(hall.texts, kept)
        hall.texts["kind add"] = "x"
        self.assertEqual(hall.texts, kept)

    def test_the_reading_itself(self):
        # It does what the plain system does.
        spec = drawn_spec(3)
        steps = drawn_steps(system_of(spec), 3)
        self.assertEqual(played(spec, steps).tree(), system_of(spec).play(*steps))


def drawn_steps_from(system, state, draw):
    """A few steps from a state, drawn at random."""
    steps = []
    for _ in range(draw.randint(0, 5)):
        possible = system.possible(state)
        if not possible:
            break
        steps.append(draw.choice(possible))
        state = system.after(state, steps[-1])
    return steps


if __name__ == "__main__":
    unittest.main()
