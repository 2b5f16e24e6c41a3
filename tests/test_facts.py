"""Facts of schedules, what they need, and whys [34]; which rows a run reads [12]."""

import copy
import itertools
import unittest

from oncepost.errors import NoFact
from oncepost.facts import facts, is_why, needs_of, why
from oncepost.schedules import Schedule
from oncepost.systems import Service, System
from oncepost.ways import Ways
from tests.chains import separate, side_by_side
from tests.draws import drawn_spec, drawn_steps, system_of
from tests.plain import played
from tests.samples import adder_system, odd_values

BODY = ("body",)
ONE = ("value", 1)
TAKE, COMMIT, ANSWER = ("take", "add"), ("commit", "adder"), ("answer", "add")
RELAY, MARK, LOSE = ("relay", "adder", "told"), ("mark", "adder", "told"), ("lose", "adder", "told")
POST, CRASH = ("post", "adder", "told"), ("crash", "adder")
ENTRY = ("entry", "add", 0)
COMMITS = [("commit", "adder", number) for number in range(4)]
ROWS = [("row", "adder", "n", "k", number) for number in range(4)]
TOLD = [("entry", "told", place) for place in range(4)]


def row(name):
    return ("row", name)


def of(way, *steps, handler=None, commands=(("add", "k", 3),)):
    """A schedule of the adder, who may meet two crashes and two losses."""
    handler = handler or (("set", "n", ("+", row("n"), BODY)), ("send", "told", None, row("n")))
    service = Service("adder", {"add": handler}, way, crashes=2, losses=2)
    return Schedule(System(["add", "told"], [service], commands), *steps)


def table(schedule):
    return {fact: needs_of(schedule, fact) for fact in facts(schedule)}


def reads_of(handler, rows=("a", "b", "c", "d"), body=0):
    """The names of those rows that a run reads, each set by a commit before it."""
    setter = Service("s", {"set": tuple(("set", name, ONE) for name in rows), "run": handler}, Ways.SAFE)
    system = System(["set", "run", "told"], [setter], [("set", "k", 0), ("run", "k", body)])
    steps = [(word, kind if word != "commit" else "s") for kind in ("set", "run") for word in ("take", "commit", "answer")]
    needs = needs_of(Schedule(system, *steps), ("commit", "s", 1))
    assert needs[0] == ("entry", "run", 0)
    return [name for _, _, name, key, number in needs[1:] if (key, number) == ("k", 0)]


class TestFacts(unittest.TestCase):
    def test_commands_alone(self):
        schedule = of(Ways.SAFE, commands=[("told", "k", 1), ("add", "k", 1), ("told", "j", 1)])
        entries = [("entry", "add", 0), ("entry", "told", 0), ("entry", "told", 1)]
        self.assertEqual(facts(schedule), entries)
        for entry in entries:
            self.assertEqual(needs_of(schedule, entry), [])
            self.assertEqual(why(schedule, entry), [entry])

    def test_no_facts(self):
        schedule = of(Ways.SAFE, commands=[])
        self.assertEqual(facts(schedule), [])
        self.assertIs(is_why(schedule, []), True)

    def test_outbox(self):
        for marking, steps in (("behind", (RELAY, MARK)), ("ahead", (MARK, RELAY))):
            schedule = of(("outbox", "inbox", "behind", marking), TAKE, COMMIT, *steps, ANSWER)
            self.assertEqual(
                table(schedule),
                {COMMITS[0]: [ENTRY], ENTRY: [], TOLD[0]: [COMMITS[0]], ROWS[0]: [COMMITS[0]]},
            )

    def test_take_and_note_make_no_fact(self):
        self.assertEqual(facts(of(Ways.SAFE, TAKE)), [ENTRY])
        late = ("outbox", "late", "behind", "behind")
        told = [COMMITS[0], ENTRY, ROWS[0]]
        self.assertEqual(facts(of(late, TAKE, COMMIT)), told)
        self.assertEqual(facts(of(late, TAKE, COMMIT, ("note", "adder"), ANSWER)), told)

    def test_after(self):
        schedule = of(("after", "inbox", "behind", "behind"), TAKE, COMMIT, POST, ANSWER)
        self.assertEqual(
            table(schedule),
            {COMMITS[0]: [ENTRY], ENTRY: [], TOLD[0]: [COMMITS[0]], ROWS[0]: [COMMITS[0]]},
        )

    def test_before(self):
        # A post needs what the commit would need, and is there without it.
        schedule = of(("before", "inbox", "behind", "behind"), TAKE, POST)
        self.assertEqual(table(schedule), {ENTRY: [], TOLD[0]: [ENTRY]})
        schedule = of(("before", "plain", "behind", "behind"), TAKE, POST, COMMIT, CRASH, TAKE, POST, CRASH)
        self.assertEqual(
            table(schedule),
            {
                COMMITS[0]: [ENTRY],
                ENTRY: [],
                TOLD[0]: [ENTRY],
                TOLD[1]: [ENTRY, ROWS[0]],
                ROWS[0]: [COMMITS[0]],
            },
        )

    def test_rows_that_are_read(self):
        schedule = of(
            ("after", "plain", "behind", "behind"),
            TAKE, COMMIT, POST, ANSWER, TAKE, COMMIT, POST, ANSWER, TAKE, COMMIT,
            commands=[("add", "k", 3), ("add", "j", 4), ("add", "k", 5)],
        )
        second, third = ("entry", "add", 1), ("entry", "add", 2)
        other = ("row", "adder", "n", "j", 1)
        self.assertEqual(
            table(schedule),
            {
                COMMITS[0]: [ENTRY], COMMITS[1]: [second], COMMITS[2]: [third, ROWS[0]],
                ENTRY: [], second: [], third: [],
                TOLD[0]: [COMMITS[0]], TOLD[1]: [COMMITS[1]],
                other: [COMMITS[1]], ROWS[0]: [COMMITS[0]], ROWS[2]: [COMMITS[2]],
            },
        )
        self.assertEqual(why(schedule, ROWS[2]), [COMMITS[0], COMMITS[2], ENTRY, third, ROWS[0], ROWS[2]])

    def test_the_last_commit_that_set_it(self):
        handler = (("if", ("<", BODY, ("value", 5)), (("set", "n", ("+", row("n"), ONE)),), ()), ("set", "m", row("n")))
        schedule = of(
            ("after", "plain", "behind", "behind"),
            TAKE, COMMIT, ANSWER, TAKE, COMMIT, ANSWER, TAKE, COMMIT,
            handler=handler,
            commands=[("add", "k", 1), ("add", "k", 9), ("add", "k", 1)],
        )
        self.assertEqual(needs_of(schedule, COMMITS[1]), [("entry", "add", 1), ROWS[0]])
        # The second commit did not set n.
        self.assertEqual(needs_of(schedule, COMMITS[2]), [("entry", "add", 2), ROWS[0]])

    def test_crashes(self):
        plain = ("outbox", "plain", "behind", "behind")
        schedule = of(plain, TAKE, CRASH, TAKE, COMMIT, RELAY, CRASH, TAKE, COMMIT, RELAY, MARK, RELAY)
        self.assertEqual(
            table(schedule),
            {
                COMMITS[0]: [ENTRY],
                COMMITS[1]: [ENTRY, ROWS[0]],
                ENTRY: [],
                # The first message was published twice, then the one of the second run.
                TOLD[0]: [COMMITS[0]],
                TOLD[1]: [COMMITS[0]],
                TOLD[2]: [COMMITS[1]],
                ROWS[0]: [COMMITS[0]],
                ROWS[1]: [COMMITS[1]],
            },
        )

    def test_crash_of_what_is_held_and_marked(self):
        plain = ("outbox", "plain", "behind", "ahead")
        steps = (TAKE, COMMIT, MARK, CRASH, TAKE, COMMIT, MARK, RELAY)
        schedule = of(plain, *steps)
        # The entry of the first commit is gone.
        self.assertEqual(needs_of(schedule, TOLD[0]), [COMMITS[1]])
        self.assertEqual(facts(schedule), [*COMMITS[:2], ENTRY, TOLD[0], *ROWS[:2]])

    def test_crash_of_a_hand_that_would_commit(self):
        schedule = of(("before", "inbox", "behind", "behind"), TAKE, POST, CRASH, TAKE, POST, COMMIT)
        self.assertEqual(
            table(schedule),
            {COMMITS[0]: [ENTRY], ENTRY: [], TOLD[0]: [ENTRY], TOLD[1]: [ENTRY], ROWS[0]: [COMMITS[0]]},
        )

    def test_losses(self):
        for marking, steps in (("behind", (LOSE, LOSE, RELAY, MARK)), ("ahead", (MARK, LOSE, LOSE, RELAY))):
            schedule = of(("outbox", "inbox", "behind", marking), TAKE, COMMIT, *steps)
            for place in range(3):
                self.assertEqual(needs_of(schedule, TOLD[place]), [COMMITS[0]])
        schedule = of(("after", "inbox", "behind", "behind"), TAKE, COMMIT, LOSE, POST)
        self.assertEqual([needs_of(schedule, fact) for fact in TOLD[:2]], [[COMMITS[0]]] * 2)
        schedule = of(("before", "inbox", "behind", "behind"), TAKE, LOSE, POST)
        self.assertEqual([needs_of(schedule, fact) for fact in TOLD[:2]], [[ENTRY]] * 2)

    def test_entries_of_several_commits_in_one_outbox(self):
        for marking, pair in (("behind", (RELAY, MARK)), ("ahead", (MARK, RELAY))):
            commands = [("add", "k", 1), ("add", "j", 2)]
            steps = (TAKE, COMMIT, ANSWER, TAKE, COMMIT, *pair, *pair)
            schedule = of(("outbox", "inbox", "behind", marking), *steps, commands=commands)
            self.assertEqual(needs_of(schedule, TOLD[0]), [COMMITS[0]])
            self.assertEqual(needs_of(schedule, TOLD[1]), [COMMITS[1]])

    def test_posts_after_a_second_commit_of_one_entry(self):
        plain = ("after", "plain", "behind", "behind")
        schedule = of(plain, TAKE, COMMIT, CRASH, TAKE, COMMIT, POST, CRASH, TAKE, COMMIT, LOSE, POST)
        self.assertEqual([needs_of(schedule, fact) for fact in TOLD[:3]], [[COMMITS[1]], [COMMITS[2]], [COMMITS[2]]])

    def test_answering_ahead(self):
        schedule = of(("after", "late", "ahead", "behind"), TAKE, ANSWER, COMMIT, POST, ("note", "adder"))
        self.assertEqual(table(schedule)[TOLD[0]], [COMMITS[0]])
        self.assertEqual(table(schedule)[COMMITS[0]], [ENTRY])

    def test_an_entry_that_was_taken_again_without_a_commit(self):
        schedule = of(Ways.SAFE, TAKE, COMMIT, CRASH, TAKE, ANSWER, RELAY)
        self.assertEqual(facts(schedule), [COMMITS[0], ENTRY, TOLD[0], ROWS[0]])
        self.assertEqual(needs_of(schedule, TOLD[0]), [COMMITS[0]])

    def test_several_services(self):
        first = Service("z", {"a": (("set", "n", BODY), ("send", "b", None, BODY))}, ("after", "plain", "behind", "behind"))
        second = Service("y", {"b": (("set", "n", row("n")), ("send", "c", "j", row("n")))})
        system = System(["a", "b", "c"], [first, second], [("a", "k", 1)])
        steps = (("take", "a"), ("commit", "z"), ("post", "z", "b"), ("take", "b"), ("commit", "y"), ("relay", "y", "c"))
        schedule = Schedule(system, *steps)
        self.assertEqual(
            table(schedule),
            {
                ("commit", "y", 0): [("entry", "b", 0)],
                ("commit", "z", 0): [("entry", "a", 0)],
                ("entry", "a", 0): [],
                ("entry", "b", 0): [("commit", "z", 0)],
                ("entry", "c", 0): [("commit", "y", 0)],
                ("row", "y", "n", "k", 0): [("commit", "y", 0)],
                ("row", "z", "n", "k", 0): [("commit", "z", 0)],
            },
        )
        whole = [("commit", "y", 0), ("commit", "z", 0), ("entry", "a", 0), ("entry", "b", 0), ("entry", "c", 0)]
        self.assertEqual(why(schedule, ("entry", "c", 0)), whole)


class TestRows(unittest.TestCase):
    def made(self, handler, body=3, way=("after", "plain", "behind", "behind")):
        return of(way, TAKE, COMMIT, CRASH, TAKE, COMMIT, handler=handler, commands=[("add", "k", body)])

    def test_a_failed_run_sets_nothing(self):
        schedule = self.made((("set", "n", ("+", row("n"), ONE)), ("fail",)))
        self.assertEqual(table(schedule), {COMMITS[0]: [ENTRY], COMMITS[1]: [ENTRY], ENTRY: []})

    def test_a_failed_run_counts_as_a_commit(self):
        # It fails the first time: n is not there yet, and stays so. The command with the key j does not fail.
        handler = (("if", ("<", BODY, ("value", 0)), (("set", "n", ONE), ("fail",)), ()), ("set", "n", row("n")))
        schedule = of(
            Ways.SAFE, TAKE, COMMIT, ANSWER, TAKE, COMMIT, ANSWER, TAKE, COMMIT,
            handler=handler, commands=[("add", "k", -1), ("add", "k", 1), ("add", "k", -1)],
        )
        self.assertEqual([fact for fact in facts(schedule) if fact[0] == "row"], [ROWS[1]])
        self.assertEqual(needs_of(schedule, COMMITS[1]), [("entry", "add", 1)])
        # The third one fails before it reads n.
        self.assertEqual(needs_of(schedule, COMMITS[2]), [("entry", "add", 2)])

    def test_a_set_to_the_same_value_and_to_nothing_counts(self):
        for value in (0, 7):
            schedule = self.made((("set", "n", ("value", value)),))
            self.assertEqual([fact for fact in facts(schedule) if fact[0] == "row"], ROWS[:2])
        schedule = self.made((("set", "n", row("n")),))
        self.assertEqual(needs_of(schedule, COMMITS[1]), [ENTRY, ROWS[0]])
        self.assertEqual(needs_of(schedule, ROWS[1]), [COMMITS[1]])

    def test_a_row_that_is_set_several_times_has_one_fact(self):
        schedule = self.made((("set", "n", ONE), ("set", "n", BODY), ("set", "m", row("n")), ("set", "n", row("m"))))
        rows = [("row", "adder", name, "k", number) for name in "mn" for number in (0, 1)]
        self.assertEqual([fact for fact in facts(schedule) if fact[0] == "row"], rows)
        # Nothing is read before it is set.
        self.assertEqual(needs_of(schedule, COMMITS[1]), [ENTRY])

    def test_rows_of_another_service_and_key_are_others(self):
        handler = (("set", "n", ("+", row("n"), ONE)),)
        services = [Service(name, {name: handler}) for name in ("a", "b")]
        system = System(["a", "b"], services, [("a", "k", 1), ("b", "k", 1), ("a", "j", 1)])
        steps = [("take", "a"), ("commit", "a"), ("answer", "a"), ("take", "b"), ("commit", "b"), ("take", "a")]
        schedule = Schedule(system, *steps, ("commit", "a"))
        self.assertEqual(needs_of(schedule, ("commit", "b", 0)), [("entry", "b", 0)])
        self.assertEqual(needs_of(schedule, ("commit", "a", 1)), [("entry", "a", 1)])


class TestReads(unittest.TestCase):
    def test_sets_sends_and_conditions(self):
        for handler, reads in (
            ((), []),
            ((("set", "n", row("a")),), ["a"]),
            ((("send", "told", None, row("b")),), ["b"]),
            ((("send", "told", "j", row("b")),), ["b"]),
            ((("if", ("<", row("a"), row("b")), (), ()),), ["a", "b"]),
            ((("set", "n", ("+", row("b"), ("*", row("a"), ("value", 0)))),), ["a", "b"]),
            ((("set", "n", BODY), ("send", "told", None, ("value", 4))), []),
            ((("set", "n", row("zz")),), []),
            ((("set", "c", row("a")), ("set", "d", row("a")), ("send", "told", None, row("a"))), ["a"]),
        ):
            self.assertEqual(reads_of(handler), reads)

    def test_before_it_sets_them(self):
        for handler, reads in (
            ((("set", "a", ("+", row("a"), ONE)),), ["a"]),
            ((("set", "a", ONE), ("send", "told", None, row("a"))), []),
            ((("set", "a", row("b")), ("set", "b", row("a"))), ["b"]),
            ((("send", "told", None, row("a")), ("set", "a", ONE), ("set", "b", row("a"))), ["a"]),
            ((("set", "a", ("value", 0)), ("if", ("=", row("a"), row("b")), (), ())), ["b"]),
        ):
            self.assertEqual(reads_of(handler), reads)

    def test_all_parts_of_a_condition(self):
        yes, no = ("=", row("a"), ONE), ("=", row("b"), ("value", 2))
        for condition in (("and", no, yes), ("or", yes, no), ("not", ("or", yes, ("and", no, no)))):
            self.assertEqual(reads_of((("if", condition, (), ()),)), ["a", "b"])

    def test_the_branch_that_is_gone_into_alone(self):
        branches = ((("set", "n", row("b")),), (("set", "n", row("c")),))
        self.assertEqual(reads_of((("if", ("=", row("a"), ONE), *branches),)), ["a", "b"])
        self.assertEqual(reads_of((("if", ("<", row("a"), ONE), *branches),)), ["a", "c"])
        # What a branch sets is set by the run.
        deeds = (("if", ("=", BODY, BODY), (("set", "a", ONE),), (("set", "b", ONE),)), ("set", "n", ("+", row("a"), row("b"))))
        self.assertEqual(reads_of(deeds), ["b"])

    def test_a_failed_run_up_to_its_fail(self):
        self.assertEqual(reads_of((("set", "n", row("a")), ("fail",), ("set", "n", row("b")))), ["a"])
        self.assertEqual(reads_of((("fail",), ("set", "n", row("b")))), [])
        deeds = (("if", ("=", row("a"), ONE), (("send", "told", None, row("b")), ("fail",)), ()), ("set", "n", row("c")))
        self.assertEqual(reads_of(deeds), ["a", "b"])
        self.assertEqual(reads_of((("set", "a", ONE), ("set", "n", row("a")), ("fail",))), [])


class TestWhy(unittest.TestCase):
    def setUp(self):
        plain = ("before", "plain", "behind", "behind")
        self.schedule = of(plain, TAKE, POST, COMMIT, CRASH, TAKE, LOSE, POST, COMMIT, ANSWER)

    def closure(self, fact):
        found = {fact}
        while True:
            more = found.union(*[needs_of(self.schedule, one) for one in found])
            if more == found:
                return sorted(found)
            found = more

    def test_why_of_each(self):
        for fact in facts(self.schedule):
            told = why(self.schedule, fact)
            self.assertIsInstance(told, list)
            self.assertEqual(told, self.closure(fact))
            self.assertIs(is_why(self.schedule, told), True)
            self.assertEqual(why(fact=fact, schedule=self.schedule), told)
            self.assertEqual(needs_of(fact=fact, schedule=self.schedule), needs_of(self.schedule, fact))

    def test_is_why_against_the_definition(self):
        every = facts(self.schedule)
        self.assertEqual(len(every), 8)
        for many in range(len(every) + 1):
            for chosen in itertools.combinations(every, many):
                closed = all(need in chosen for fact in chosen for need in needs_of(self.schedule, fact))
                self.assertIs(is_why(self.schedule, list(chosen)), closed)
                self.assertIs(is_why(self.schedule, list(reversed(chosen)) + list(chosen)), closed)
                self.assertIs(is_why(self.schedule, chosen), False)

    def test_is_why_of_other_values(self):
        self.assertIs(is_why(self.schedule, []), True)
        self.assertIs(is_why(value=[ENTRY], schedule=self.schedule), True)
        self.assertIs(is_why(self.schedule, [ENTRY, ENTRY]), True)
        wrong = [None, True, 0, "", (), (ENTRY,), ENTRY, {}, {ENTRY: True}, {ENTRY}, [[]], [[ENTRY]], [list(ENTRY)]]
        wrong += [[ENTRY, None], [ENTRY, list(ENTRY)], [("entry", "add", False)], [ENTRY, ("entry", "add", False)]]
        for value in wrong + odd_values():
            self.assertIs(is_why(self.schedule, value), value == [])
        for value in odd_values():
            self.assertIs(is_why(self.schedule, [ENTRY, value]), False)

    def test_no_fact(self):
        wrong = [None, True, 0, "", (), "entry", ("entry",), ("entry", "add"), ("entry", "add", 1), ("entry", "add", -1)]
        wrong += [("entry", "add", False), ("entry", "add", None), ("entry", "gone", 0), ("entry", "add", 0, 0), list(ENTRY)]
        wrong += [("entry", ["add"], 0), ("entry", "add", [0]), ("entry", "add", (0,)), ("entry", "add", "0"), (ENTRY,)]
        wrong += [("commit", "adder", 2), ("commit", "add", 0), ("commit", "adder", True), ("commit", "adder", False)]
        wrong += [("row", "adder", "n", "k", 2), ("row", "adder", "n", "k", True), ("row", "adder", "n", "j", 0)]
        wrong += [("row", "adder", "m", "k", 0), ("row", "adder", "n", "k"), {"entry": 0}, [], {}, self.schedule]
        wrong += [("entry", "add", 10 ** 109), TAKE, COMMIT, ("adder", (0,))]
        for value in wrong + odd_values():
            for call in (needs_of, why):
                with self.subTest(value):
                    with self.assertRaises(NoFact) as caught:
                        call(self.schedule, value)
                    self.assertIs(caught.exception.fact, value)

    def test_what_is_returned_is_new(self):
        for call in (facts, lambda one: needs_of(one, TOLD[1]), lambda one: why(one, TOLD[1])):
            first = call(self.schedule)
            told = list(first)
            first.clear()
            self.assertEqual(call(self.schedule), told)
            self.assertNotEqual(told, [])
            call(self.schedule)[0] = None
            self.assertEqual(call(self.schedule), told)

    def test_what_is_passed_stays(self):
        for value in ([TOLD[0], ENTRY, TOLD[0]], [TOLD[1]], [[1], {"a": [2]}]):
            before = copy.deepcopy(value)
            is_why(self.schedule, value)
            self.assertEqual(value, before)


class TestDrawn(unittest.TestCase):
    def test_whys_of_drawn_schedules(self):
        # The facts and needs themselves are held against the plain reading in tests.test_plain.
        for seed in range(80):
            spec = drawn_spec(seed, most_faults=2)
            system = system_of(spec)
            steps = drawn_steps(system, seed)
            schedule = Schedule(system, *steps)
            told = played(spec, steps).facts
            for fact in facts(schedule):
                whole = why(schedule, fact)
                self.assertEqual(whole, sorted({fact}.union(*[why(schedule, need) for need in told[fact]])))
                self.assertIs(is_why(schedule, whole), True)
                self.assertIs(is_why(schedule, whole[::-1] + whole), True)
                self.assertIs(is_why(schedule, [one for one in whole if one != fact]), True)

    def test_very_many_cuts(self):
        schedule = Schedule(separate(), *side_by_side(10, 10, 10, 10))
        told = sorted([("commit", name, 0) for name in "abcd"] + [("entry", name, 0) for name in "abcd"])
        self.assertEqual(facts(schedule), told + [("row", name, "n", "k", 0) for name in "abcd"])
        self.assertEqual(why(schedule, ("row", "c", "n", "k", 0))[:2], [("commit", "c", 0), ("entry", "c", 0)])
        self.assertIs(is_why(schedule, facts(schedule)), True)

    def test_the_document(self):
        steps = (TAKE, COMMIT, RELAY, MARK, ANSWER)
        schedule = Schedule(adder_system(), *steps)
        self.assertEqual(why(schedule, TOLD[0]), [COMMITS[0], ENTRY, TOLD[0]])


if __name__ == "__main__":
    unittest.main()
