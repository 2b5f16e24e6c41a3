"""The steps of point 24, written out: what each needs and does, with each posting, keeping, answering and marking."""

import unittest

from oncepost.errors import NotPlayed
from oncepost.systems import Service, System
from oncepost.ways import Ways
from tests.samples import adder_system, odd_values

BODY = ("body",)
NEGATIVE = ("<", BODY, ("value", 0))

# Counts the messages in n; fails if the value is negative, after it has set and sent; otherwise it sends two messages
# if the value is 3, one if it is 1, none otherwise.
COUNT = ("set", "n", ("+", ("row", "n"), ("value", 1)))
TELL = ("send", "told", None, ("row", "n"))
PAIR = (TELL, ("send", "more", "j", BODY))
OTHERWISE = ("if", ("=", BODY, ("value", 1)), (TELL,), (("if", ("=", BODY, ("value", 3)), PAIR, ()),))
JOB = (COUNT, ("if", NEGATIVE, (TELL, ("fail",)), (OTHERWISE,)))
ASK = (("send", "job", None, BODY),)
TOLD = ("told", "k", 1)
MORE = ("more", "j", 3)

COMMIT = ("commit",)
NOTE = ("note",)
ANSWER = ("answer",)
POSTS = "posts"

# What a take finds to do the first time: posting, keeping, answering.
TO_DO = {
    ("outbox", "inbox", "behind"): [COMMIT, ANSWER],
    ("outbox", "inbox", "ahead"): [ANSWER, COMMIT],
    ("outbox", "late", "behind"): [COMMIT, NOTE, ANSWER],
    ("outbox", "late", "ahead"): [ANSWER, COMMIT, NOTE],
    ("outbox", "plain", "behind"): [COMMIT, ANSWER],
    ("outbox", "plain", "ahead"): [ANSWER, COMMIT],
    ("after", "inbox", "behind"): [COMMIT, POSTS, ANSWER],
    ("after", "inbox", "ahead"): [ANSWER, COMMIT, POSTS],
    ("after", "late", "behind"): [COMMIT, POSTS, NOTE, ANSWER],
    ("after", "late", "ahead"): [ANSWER, COMMIT, POSTS, NOTE],
    ("after", "plain", "behind"): [COMMIT, POSTS, ANSWER],
    ("after", "plain", "ahead"): [ANSWER, COMMIT, POSTS],
    ("before", "inbox", "behind"): [POSTS, COMMIT, ANSWER],
    ("before", "inbox", "ahead"): [ANSWER, POSTS, COMMIT],
    ("before", "late", "behind"): [POSTS, COMMIT, NOTE, ANSWER],
    ("before", "late", "ahead"): [ANSWER, POSTS, COMMIT, NOTE],
    ("before", "plain", "behind"): [POSTS, COMMIT, ANSWER],
    ("before", "plain", "ahead"): [ANSWER, POSTS, COMMIT],
}


def ways():
    return [(way, TO_DO[way[:3]]) for way in Ways.every()]


def worker(way, body, crashes=0, losses=0):
    """One service that handles one command."""
    service = Service("bob", {"job": JOB}, way, crashes=crashes, losses=losses)
    return System(["job", "more", "told"], [service], [("job", "k", body)])


def asked(way, body):
    """Ann sends a job to bob, and may do it twice with the same id."""
    ann = Service("ann", {"ask": ASK}, ("after", "plain", "behind", "behind"), losses=1)
    bob = Service("bob", {"job": JOB}, way)
    return System(["ask", "job", "more", "told"], [ann, bob], [("ask", "k", body)])


TWICE = (("take", "ask"), ("commit", "ann"), ("lose", "ann", "job"), ("post", "ann", "job"), ("answer", "ask"))


def work(system, state, name):
    """The state after bob has done all that is in his hand."""
    hand = state[1][-1][4]
    for deed in hand[2]:
        if deed[0] == "answer":
            step = ("answer", "job")
        elif deed[0] == "post":
            step = ("post", name, deed[1])
        else:
            step = (deed[0], name)
        state = system.after(state, step)
    return state


class StepCase(unittest.TestCase):
    def impossible(self, system, state, *steps):
        for step in steps:
            with self.subTest(step, state=state):
                self.assertIn(step, system.all_steps)
                self.assertNotIn(step, system.possible(state))
                with self.assertRaises(NotPlayed) as caught:
                    system.after(state, step)
                self.assertEqual(caught.exception.index, 0)


class TestTake(StepCase):
    def hand(self, todo, posts):
        flat = []
        for deed in todo:
            flat.extend(posts if deed == POSTS else [deed])
        return ("job", 0, tuple(flat))

    def test_a_run_that_sends_one_message(self):
        for way, todo in ways():
            system = worker(way, 1)
            own = system.play(("take", "job"))[1][0]
            self.assertEqual(own[4], self.hand(todo, [("post", "told", (0, 0), TOLD)]))

    def test_a_run_that_sends_three_messages(self):
        for way, todo in ways():
            twice = (COUNT, TELL, ("send", "more", "j", BODY), TELL)
            system = System(["job", "more", "told"], [Service("bob", {"job": twice}, way)], [("job", "k", 3)])
            own = system.play(("take", "job"))[1][0]
            posts = [("post", "told", (0, 0), TOLD), ("post", "more", (0, 1), MORE), ("post", "told", (0, 2), TOLD)]
            self.assertEqual(own[4], self.hand(todo, posts))

    def test_a_run_that_sends_nothing_and_a_failed_one(self):
        for way, todo in ways():
            for body in (0, -1):
                own = worker(way, body).play(("take", "job"))[1][0]
                self.assertEqual(own[4], self.hand(todo, []))

    def test_nothing_but_the_hand_is_changed(self):
        for way, _ in ways():
            system = worker(way, 1, 2, 3)
            logs, (own,) = system.play(("take", "job"))
            begun = system.begin[1][0]
            self.assertEqual(logs, system.begin[0])
            self.assertEqual((own[:4], own[5:]), (begun[:4], begun[5:]))

    def test_again(self):
        for way, todo in ways():
            system = asked(way, 1)
            state = work(system, system.after(system.play(*TWICE), ("take", "job")), "bob")
            self.assertEqual(len(state[0][1][0]), 2)
            own = system.after(state, ("take", "job"))[1][1]
            hand = ("job", 1, (ANSWER,))
            if way[1] == "plain":
                # The row n is 1 already.
                kind, _, deeds = self.hand(todo, [("post", "told", (0, 0, 0), ("told", "k", 2))])
                hand = (kind, 1, deeds)
            self.assertEqual(own[4], hand)

    def test_again_of_a_failed_run(self):
        for way, todo in ways():
            system = asked(way, -1)
            state = work(system, system.after(system.play(*TWICE), ("take", "job")), "bob")
            own = system.after(state, ("take", "job"))[1][1]
            kept = way[1] != "plain"
            self.assertEqual(own[4], ("job", 1, (ANSWER,) if kept else self.hand(todo, [])[2]))

    def test_again_after_a_crash(self):
        system = worker(Ways.SAFE, 1, crashes=1)
        state = system.play(("take", "job"), ("commit", "bob"), ("crash", "bob"), ("take", "job"))
        self.assertEqual(state[1][0][4], ("job", 0, (ANSWER,)))
        late = worker(("outbox", "late", "behind", "behind"), 1, crashes=1)
        state = late.play(("take", "job"), ("commit", "bob"), ("crash", "bob"), ("take", "job"))
        self.assertEqual(state[1][0][4], ("job", 0, (COMMIT, NOTE, ANSWER)))
        state = late.play(("take", "job"), ("commit", "bob"), ("note", "bob"), ("crash", "bob"), ("take", "job"))
        self.assertEqual(state[1][0][4], ("job", 0, (ANSWER,)))

    def test_the_entry_at_the_position(self):
        service = Service("bob", {"job": JOB}, ("outbox", "inbox", "ahead", "behind"))
        commands = [("job", "k", 0), ("job", "j", 1)]
        system = System(["job", "more", "told"], [service], commands)
        state = system.play(("take", "job"), ("answer", "job"), ("commit", "bob"), ("take", "job"))
        self.assertEqual(state[1][0][4], ("job", 1, (ANSWER, COMMIT)))
        self.assertEqual(state[0][0][1], 1)

    def test_impossible(self):
        two = System(["a", "b"], [Service("s", {"a": (), "b": ()}, crashes=1)], [("a", "k", 1)])
        # The log of b is not longer than its position.
        self.impossible(two, two.begin, ("take", "b"))
        both = System(["a", "b"], [Service("s", {"a": (), "b": ()})], [("a", "k", 1), ("b", "k", 1)])
        self.assertEqual(both.possible(both.begin), [("take", "a"), ("take", "b")])
        # One hand for both kinds.
        self.impossible(both, both.play(("take", "b")), ("take", "a"), ("take", "b"))
        done = both.play(("take", "b"), ("commit", "s"), ("answer", "b"))
        self.impossible(both, done, ("take", "b"))
        self.assertEqual(both.possible(done), [("take", "a")])


class TestCommit(StepCase):
    def committed(self, way, body):
        """What is of bob after the commit of the only command, and what was of him before it."""
        system = worker(way, body)
        state = system.play(("take", "job"))
        while ("commit", "bob") not in system.possible(state):
            state = system.after(state, system.possible(state)[0])
        return system.after(state, ("commit", "bob")), state

    def test_rows_inbox_book_outs_and_hand(self):
        for way, _ in ways():
            for body, sends in ((0, 0), (1, 1), (3, 2)):
                after, before = self.committed(way, body)
                rows, inbox, book, outs, hand, crashes, losses = after[1][0]
                self.assertEqual(rows, ((("n", "k"), 1),))
                self.assertEqual(inbox, ((0,),) if way[1] == "inbox" else ())
                self.assertEqual(book, (((0,), 1, sends),))
                told = [((0, 0), TOLD)] if sends else []
                more = [((0, 1), MORE)] if sends == 2 else []
                self.assertEqual(outs, (tuple(more), None, tuple(told), None) if way[0] == "outbox" else ())
                self.assertEqual(() if hand is None else hand[2], before[1][0][4][2][1:])
                self.assertEqual(after[0], before[0])

    def test_a_failed_run(self):
        for way, _ in ways():
            after, before = self.committed(way, -1)
            rows, inbox, book, outs, hand, crashes, losses = after[1][0]
            self.assertEqual(rows, ())
            self.assertEqual(inbox, ((0,),) if way[1] == "inbox" else ())
            self.assertEqual(book, (((0,), 1, 0),))
            self.assertEqual(outs, ((), None, (), None) if way[0] == "outbox" else ())
            self.assertEqual(() if hand is None else hand[2], before[1][0][4][2][1:])

    def test_a_failed_run_leaves_the_rows_that_are_there(self):
        commands = [("job", "k", 0), ("job", "k", -5), ("job", "j", 0)]
        for way, _ in ways():
            system = System(["job", "more", "told"], [Service("bob", {"job": JOB}, way)], commands)
            state = system.begin
            for rows in (((("n", "k"), 1),), ((("n", "k"), 1),), ((("n", "j"), 1), (("n", "k"), 1))):
                state = work(system, system.after(state, ("take", "job")), "bob")
                self.assertEqual(state[1][0][0], rows)
            self.assertEqual(state[1][0][2], (((0,), 1, 0), ((1,), 1, 0), ((2,), 1, 0)))
            self.assertEqual(state[1][0][1], () if way[1] == "plain" else ((0,), (1,), (2,)))

    def test_the_book_of_several_commits(self):
        # The first run sends one message, the second one three, the third one fails, the fourth one sends one.
        handler = (
            COUNT,
            ("if", ("=", ("row", "n"), ("value", 2)), (TELL, TELL), ()),
            TELL,
            ("if", ("=", ("row", "m"), ("value", 1)), (("fail",),), ()),
            ("set", "m", ("-", ("row", "n"), ("value", 1))),
        )
        way = ("outbox", "plain", "behind", "behind")
        service = Service("bob", {"job": handler}, way, crashes=3)
        system = System(["job", "told"], [service], [("job", "k", 1)])
        state = system.begin
        books = []
        for _ in range(3):
            state = system.after(system.after(state, ("take", "job")), ("commit", "bob"))
            books.append(state[1][0][2])
            state = system.after(state, ("crash", "bob"))
        self.assertEqual(books, [(((0,), 1, 1),), (((0,), 2, 3),), (((0,), 3, 3),)])
        ids = [ident for ident, _ in state[1][0][3][0]]
        self.assertEqual(ids, [(0, 0), (0, 0), (0, 1), (0, 2)])
        # The third run failed: its rows stayed.
        self.assertEqual(state[1][0][0], ((("m", "k"), 1), (("n", "k"), 2)))

    def test_the_book_of_runs_that_failed_alone(self):
        service = Service("bob", {"job": (("fail",),)}, ("before", "plain", "behind", "behind"), crashes=1)
        system = System(["job", "told"], [service], [("job", "k", 1)])
        once = (("take", "job"), ("commit", "bob"))
        self.assertEqual(system.play(*once)[1][0][2], (((0,), 1, 0),))
        self.assertEqual(system.play(*once, ("crash", "bob"), *once)[1][0][2], (((0,), 2, 0),))

    def test_book_and_inbox_ascend(self):
        # The commands come in another order than their ids.
        service = Service("bob", {"a": (), "b": ()})
        system = System(["a", "b"], [service], [("b", "k", 1), ("a", "k", 1), ("b", "k", 1)])
        state = system.begin
        seen = []
        for kind in ("a", "b", "b"):
            for step in (("take", kind), ("commit", "bob"), ("answer", kind)):
                state = system.after(state, step)
            seen.append(state[1][0][1])
        self.assertEqual(seen, [((1,),), ((0,), (1,)), ((0,), (1,), (2,))])
        self.assertEqual(state[1][0][2], (((0,), 1, 0), ((1,), 1, 0), ((2,), 1, 0)))

    def test_impossible(self):
        for way, todo in ways():
            system = worker(way, 1)
            self.impossible(system, system.begin, ("commit", "bob"))
            if todo[0] != COMMIT:
                self.impossible(system, system.play(("take", "job")), ("commit", "bob"))


class TestPostNoteAnswer(StepCase):
    def test_posts_in_order(self):
        for way, todo in ways():
            if way[0] == "outbox":
                continue
            system = worker(way, 3, losses=1)
            state = system.play(("take", "job"))
            while state[1][0][4][2][0][0] != "post":
                self.impossible(system, state, ("post", "bob", "told"), ("post", "bob", "more"), ("lose", "bob", "told"))
                state = system.after(state, system.possible(state)[0])
            deeds = state[1][0][4][2]
            self.assertEqual(deeds[:2], (("post", "told", (0, 0), TOLD), ("post", "more", (0, 1), MORE)))
            self.impossible(system, state, ("post", "bob", "more"), ("lose", "bob", "more"))
            state = system.after(state, ("post", "bob", "told"))
            self.assertEqual(state[0][1:], (((), 0), ((((0, 0), TOLD),), 0)))
            self.impossible(system, state, ("post", "bob", "told"))
            state = system.after(state, ("post", "bob", "more"))
            self.assertEqual(state[0][1:], (((((0, 1), MORE),), 0), ((((0, 0), TOLD),), 0)))
            hand = state[1][0][4]
            self.assertEqual(() if hand is None else hand[2], deeds[2:])

    def test_note(self):
        for way, todo in ways():
            if way[1] != "late":
                continue
            system = worker(way, 0)
            state = system.begin
            for deed in [("take",), *todo]:
                if deed == POSTS:
                    continue
                self.assertEqual(("note", "bob") in system.possible(state), deed == NOTE)
                before = state
                state = system.after(state, (deed[0], "bob" if deed in (COMMIT, NOTE) else "job"))
                if deed == NOTE:
                    self.assertEqual((before[1][0][1], state[1][0][1]), ((), ((0,),)))
                    self.assertEqual(before[0], state[0])
            self.assertIsNone(state[1][0][4])

    def test_no_note_otherwise(self):
        for way, _ in ways():
            self.assertEqual(("note", "bob") in worker(way, 0).all_steps, way[1] == "late")

    def test_answer(self):
        for way, todo in ways():
            system = worker(way, 0)
            state = system.begin
            answers = 0
            for deed in [("take",), *todo]:
                if deed == POSTS:
                    continue
                self.assertEqual(state[0][0][1], answers)
                self.assertEqual(("answer", "job") in system.possible(state), deed == ANSWER)
                state = system.after(state, (deed[0], "bob" if deed in (COMMIT, NOTE) else "job"))
                answers += deed == ANSWER
            self.assertEqual(state[0][0], ((((0,), ("job", "k", 0)),), 1))
            self.assertIsNone(state[1][0][4])
            self.assertEqual(system.possible(state), [])

    def test_answer_of_the_kind_in_hand_alone(self):
        both = System(["a", "b"], [Service("s", {"a": (), "b": ()})], [("a", "k", 1), ("b", "k", 1)])
        state = both.play(("take", "b"), ("commit", "s"))
        self.impossible(both, state, ("answer", "a"))
        self.assertEqual(both.possible(state), [("answer", "b")])
        self.assertEqual([log[1] for log in both.after(state, ("answer", "b"))[0]], [0, 1])


class TestRelayMark(StepCase):
    def outs(self, state):
        """The outbox for told, what is held, and the log of told."""
        return state[1][0][3][2], state[1][0][3][3], state[0][2][0]

    def begun(self, marking, **budgets):
        """Two entries in the outbox of told, one in that of more."""
        way = ("outbox", "inbox", "behind", marking)
        handler = (COUNT, TELL, ("send", "more", "j", BODY), ("send", "told", "j", BODY))
        service = Service("bob", {"job": handler}, way, **budgets)
        system = System(["job", "more", "told"], [service], [("job", "k", 3)])
        return system, system.play(("take", "job"), ("commit", "bob"), ("answer", "job"))

    def test_behind(self):
        system, state = self.begun("behind")
        first, second = ((0, 0), TOLD), ((0, 2), ("told", "j", 3))
        relay, mark = ("relay", "bob", "told"), ("mark", "bob", "told")
        self.assertEqual(self.outs(state), ((first, second), None, ()))
        self.impossible(system, state, mark)
        state = system.after(state, relay)
        self.assertEqual(self.outs(state), ((first, second), first, (first,)))
        self.impossible(system, state, relay)
        state = system.after(state, mark)
        self.assertEqual(self.outs(state), ((second,), None, (first,)))
        state = system.after(state, relay)
        self.assertEqual(self.outs(state), ((second,), second, (first, second)))
        state = system.after(state, mark)
        self.assertEqual(self.outs(state), ((), None, (first, second)))
        self.impossible(system, state, relay, mark)
        # The other outbox has been left alone.
        self.assertEqual(state[1][0][3][:2], ((((0, 1), MORE),), None))
        self.assertEqual(system.possible(state), [("relay", "bob", "more")])

    def test_ahead(self):
        system, state = self.begun("ahead")
        first, second = ((0, 0), TOLD), ((0, 2), ("told", "j", 3))
        relay, mark = ("relay", "bob", "told"), ("mark", "bob", "told")
        self.impossible(system, state, relay)
        state = system.after(state, mark)
        self.assertEqual(self.outs(state), ((second,), first, ()))
        self.impossible(system, state, mark)
        state = system.after(state, relay)
        self.assertEqual(self.outs(state), ((second,), None, (first,)))
        self.impossible(system, state, relay)
        state = system.after(system.after(state, mark), relay)
        self.assertEqual(self.outs(state), ((), None, (first, second)))
        self.impossible(system, state, relay, mark)
        self.assertEqual(system.possible(state), [("mark", "bob", "more")])

    def test_lose_behind(self):
        system, state = self.begun("behind", losses=2)
        first = ((0, 0), TOLD)
        lose = ("lose", "bob", "told")
        once = system.after(state, lose)
        self.assertEqual(self.outs(once), ((*self.outs(state)[0],), None, (first,)))
        self.assertEqual((once[1][0][6], once[1][0][:6]), (1, state[1][0][:6]))
        twice = system.after(once, lose)
        self.assertEqual(self.outs(twice)[2], (first, first))
        self.impossible(system, twice, lose, ("lose", "bob", "more"))
        # Not while it is held, and not from an empty outbox.
        held = system.after(state, ("relay", "bob", "told"))
        self.impossible(system, held, lose)
        other = system.after(system.after(held, ("relay", "bob", "more")), ("mark", "bob", "more"))
        self.impossible(system, other, ("lose", "bob", "more"))

    def test_lose_ahead(self):
        system, state = self.begun("ahead", losses=1)
        first = ((0, 0), TOLD)
        lose = ("lose", "bob", "told")
        self.impossible(system, state, lose)
        held = system.after(state, ("mark", "bob", "told"))
        lost = system.after(held, lose)
        self.assertEqual(self.outs(lost), ((((0, 2), ("told", "j", 3)),), first, (first,)))
        self.assertEqual(lost[1][0][6], 0)
        self.impossible(system, lost, lose)
        self.assertEqual(self.outs(system.after(lost, ("relay", "bob", "told")))[2], (first, first))

    def test_lose_of_a_post(self):
        for posting in ("after", "before"):
            system = worker((posting, "plain", "behind", "behind"), 1, losses=1)
            steps = [("take", "job"), ("commit", "bob")] if posting == "after" else [("take", "job")]
            state = system.play(*steps)
            lost = system.after(state, ("lose", "bob", "told"))
            self.assertEqual(lost[0][2][0], (((0, 0), TOLD),))
            self.assertEqual((lost[1][0][:6], lost[1][0][6]), (state[1][0][:6], 0))
            self.impossible(system, lost, ("lose", "bob", "told"))
            posted = system.after(lost, ("post", "bob", "told"))
            self.assertEqual(posted[0][2][0], (((0, 0), TOLD),) * 2)
            self.impossible(system, system.begin, ("lose", "bob", "told"))

    def test_no_losses(self):
        for way, _ in ways():
            system = worker(way, 1)
            state = system.begin
            while system.possible(state):
                self.impossible(system, state, ("lose", "bob", "told"), ("crash", "bob"))
                state = system.after(state, system.possible(state)[0])


class TestCrash(StepCase):
    def test_hand_and_what_is_held(self):
        for marking in ("behind", "ahead"):
            case = TestRelayMark()
            system, state = case.begun(marking, crashes=2, losses=1)
            self.impossible(system, state, ("crash", "bob"))
            first = ("relay" if marking == "behind" else "mark")
            held = system.after(system.after(state, (first, "bob", "told")), (first, "bob", "more"))
            after = system.after(held, ("crash", "bob"))
            rows, inbox, book, outs, hand, crashes, losses = held[1][0]
            self.assertNotIn(None, outs)
            forgotten = (outs[0], None, outs[2], None)
            self.assertEqual(after, (held[0], ((rows, inbox, book, forgotten, None, 1, 1),)))
            self.impossible(system, after, ("crash", "bob"))

    def test_at_any_time_with_a_hand(self):
        for way, _ in ways():
            system = worker(way, 3, crashes=1)
            state = system.after(system.begin, ("take", "job"))
            while state[1][0][4] is not None:
                after = system.after(state, ("crash", "bob"))
                logs, (own,) = after
                self.assertEqual((logs, own[:3]), (state[0], state[1][0][:3]))
                self.assertEqual((own[4], own[5]), (None, 0))
                self.assertEqual(own[3][::2], state[1][0][3][::2])
                self.impossible(system, after, ("crash", "bob"))
                state = system.after(state, [step for step in system.possible(state) if step[0] != "crash"][0])

    def test_others_go_on(self):
        system = asked(Ways.SAFE, 1).with_budgets([(1, 0), (1, 0)])
        state = system.play(("take", "ask"))
        after = system.after(state, ("crash", "ann"))
        self.assertEqual(after[1][1], state[1][1])
        self.impossible(system, state, ("crash", "bob"))


class TestPossibleAfterPlay(StepCase):
    def test_possible_is_in_order(self):
        system = asked(("outbox", "late", "behind", "behind"), 3).with_budgets([(1, 1), (1, 1)])
        state = system.play(*TWICE[:4], ("take", "job"), ("commit", "bob"))
        possible = system.possible(state)
        steps = [("note", "bob"), ("answer", "ask"), ("relay", "bob", "more"), ("relay", "bob", "told")]
        steps += [("lose", "bob", "more"), ("lose", "bob", "told"), ("crash", "ann"), ("crash", "bob")]
        self.assertEqual(possible, steps)
        self.assertIsInstance(possible, list)

    def test_the_same_call_again(self):
        system = adder_system()
        state = system.play(("take", "add"))
        for _ in range(2):
            self.assertEqual(system.possible(state), [("commit", "adder"), ("crash", "adder")])
            self.assertEqual(system.after(state, ("commit", "adder")), system.play(("take", "add"), ("commit", "adder")))
        system.possible(state).append("x")
        self.assertEqual(len(system.possible(state)), 2)
        self.assertEqual(state, system.play(("take", "add")))

    def test_no_steps(self):
        wrong = [None, 0, True, "take", "", (), ("take",), ("take", "add", "add"), ("take", "told"), ("take", "adder")]
        wrong += [("take", "gone"), ["take", "add"], ("take", ["add"]), ("take", ("add",)), ("take", True), (True, "add")]
        wrong += [("answer", "add"), ("commit", "adder"), ("commit", "add"), ("commit", "other"), ("post", "adder", "told")]
        wrong += [("note", "adder"), ("crash", "adder"), ("relay", "adder", "told"), ("relay", "adder", "add")]
        wrong += [{"take": "add"}, ("take", {}), (("take", "add"),), ("Take", "add"), ("take", "add", None), ("lose",)]
        system = adder_system()
        for value in wrong + odd_values():
            with self.subTest(value):
                with self.assertRaises(NotPlayed) as caught:
                    system.after(system.begin, value)
                self.assertEqual(caught.exception.index, 0)
                with self.assertRaises(NotPlayed) as caught:
                    system.play(value)
                self.assertEqual(caught.exception.index, 0)
                if value in system.all_steps:
                    continue
                with self.assertRaises(NotPlayed) as caught:
                    system.play(("take", "add"), ("commit", "adder"), value, None)
                self.assertEqual(caught.exception.index, 2)

    def test_the_first_index(self):
        system = adder_system()
        take, commit, answer = ("take", "add"), ("commit", "adder"), ("answer", "add")
        for steps, index in (
            ((commit, take), 0),
            ((take, take), 1),
            ((take, answer, take), 1),
            ((take, commit, answer, answer), 3),
            ((take, commit, answer, take, None), 3),
            ((None,), 0),
            ((take, commit, list(answer)), 2),
        ):
            with self.assertRaises(NotPlayed) as caught:
                system.play(*steps)
            self.assertEqual(caught.exception.index, index)

    def test_play(self):
        system = adder_system()
        self.assertEqual(system.play(), system.begin)
        state = system.begin
        steps = (("take", "add"), ("commit", "adder"), ("answer", "add"))
        for at, step in enumerate(steps):
            state = system.after(state, step)
            self.assertEqual(system.play(*steps[: at + 1]), state)

    def test_by_name(self):
        system = adder_system()
        state = system.after(step=("take", "add"), state=system.begin)
        self.assertEqual(system.possible(state=state), [("commit", "adder"), ("crash", "adder")])

    def test_states_with_things_forgotten(self):
        # Point 60: a thing is an id that is left out of an inbox; then its entry is run again.
        system = adder_system()
        state = system.play(("take", "add"), ("commit", "adder"), ("crash", "adder"))
        logs, ((rows, inbox, *rest),) = state
        forgotten = (logs, ((rows, (), *rest),))
        self.assertEqual(system.possible(forgotten), [("take", "add"), ("relay", "adder", "told")])
        taken = system.after(forgotten, ("take", "add"))
        self.assertEqual(taken[1][0][4], ("add", 0, (COMMIT, ANSWER)))
        again = system.after(taken, ("commit", "adder"))
        self.assertEqual(again[1][0][:3], (((("n", "k"), 6),), ((0,),), (((0,), 2, 1),)))


if __name__ == "__main__":
    unittest.main()
