"""What ways can do: accounts against walking through all schedules, and witnesses [4] [52]."""

import time
import unittest

from oncepost.accounts import account, witness
from oncepost.errors import InvalidCount, InvalidWay, NoWord
from oncepost.judging import Words, is_so, judge
from oncepost.searches import ends
from oncepost.systems import Service, System
from oncepost.ways import Ways
from tests.draws import drawn_spec, drawn_steps, system_of
from tests.listing import states_from
from tests.samples import odd_values
from tests.test_judging import words_of

SAFE = Ways.SAFE
GREAT = 10 ** 100
WRONG_WAYS = [None, True, 0, "", (), list(SAFE), SAFE[:3], (*SAFE, "behind"), ("inbox", *SAFE[1:]), (SAFE,), "outbox"]
WRONG_WAYS += [("outbox", "inbox", "behind", "late"), ("outbox", "inbox", None, "behind"), ("outbox", "before", *SAFE[2:])]
WRONG_COUNTS = [True, False, None, -1, GREAT + 1, -GREAT, 10 ** 109, "0", "", (), (0,), [], [0], {}, Ways]


def walked(way, copies, crashes, losses):
    """The account, from all ends of the system that point 52 describes."""
    service = Service("s", {"a": (("send", "told", None, ("body",)),)}, way, crashes=crashes, losses=losses)
    system = System(["a", "told"], [service], [("a", "k", 1)])
    ((entry,), position), told = system.begin[0]
    begin = ((((entry,) * (1 + copies), position), told), system.begin[1])
    ended = [state for state in states_from(system, begin) if not system.possible(state)]
    commits = [own[2][0][1] if own[2] else 0 for _, (own,) in ended]
    posts = [len(logs[1][0]) for logs, _ in ended]
    return (min(commits), max(commits), min(posts), max(posts))


class TestAccount(unittest.TestCase):
    def test_document(self):
        self.assertEqual(account(SAFE, 0, 1, 0), (1, 1, 1, 2))
        self.assertEqual(account(("after", "plain", "behind", "behind"), 0, 2, 0), (1, 3, 1, 3))

    def test_all_ways_and_small_numbers(self):
        for way in Ways.every():
            for copies in range(4):
                for crashes in range(4 if copies < 3 else 3):
                    for losses in range(2 if copies else 3):
                        with self.subTest(way, copies=copies, crashes=crashes, losses=losses):
                            told = walked(way, copies, crashes, losses)
                            self.assertEqual(account(way, copies, crashes, losses), told)

    def test_great_numbers(self):
        begun = time.process_time()
        for way in Ways.every():
            for copies in (0, 1, GREAT - 1, GREAT):
                for crashes in (0, 1, GREAT):
                    for losses in (0, GREAT):
                        told = account(way, copies, crashes, losses)
                        self.assertEqual([isinstance(number, int) for number in told], [True] * 4)
        self.assertLess(time.process_time() - begun, 2)
        many = GREAT + 1
        self.assertEqual(account(("outbox", "plain", "behind", "behind"), GREAT, 5, 7), (many, many + 5, many, many + 17))
        self.assertEqual(account(("outbox", "plain", "ahead", "ahead"), GREAT, 5, 7), (many - 5, many, many - 10, many + 7))
        self.assertEqual(account(("after", "late", "ahead", "behind"), GREAT, 5, GREAT), (1, 6, 1, 6 + GREAT))
        self.assertEqual(account(("before", "inbox", "behind", "ahead"), 3, GREAT, 2), (1, 1, 1, GREAT + 3))
        self.assertEqual(account(SAFE, GREAT, GREAT, GREAT), (1, 1, 1, 2 * GREAT + 1))

    def test_great_numbers_like_small_ones(self):
        # In each number the account goes by steps from three on: so small numbers that were walked tell great ones.
        for way in Ways.every():
            for at in range(3):
                numbers = [6, 6, 6]
                told = []
                for number in (40, 41, 42, 43):
                    numbers[at] = number
                    told.append(account(way, *numbers))
                steps = [[b - a for a, b in zip(one, other)] for one, other in zip(told, told[1:])]
                self.assertEqual(steps, steps[:1] * 3)

    def test_marking_matters_to_outboxes_alone(self):
        for posting, keeping, answering, marking in Ways.every():
            other = "ahead" if marking == "behind" else "behind"
            same = account((posting, keeping, answering, marking), 2, 3, 1) == account((posting, keeping, answering, other), 2, 3, 1)
            self.assertIs(same, posting != "outbox")

    def test_errors(self):
        for value in WRONG_WAYS + odd_values():
            with self.assertRaises(InvalidWay) as caught:
                account(value, None, -1, True)
            self.assertIs(caught.exception.value, value)
        for value in WRONG_COUNTS + [one for one in odd_values() if one != 100]:
            for at in range(3):
                numbers = [0, 0, 0]
                numbers[at] = value
                with self.subTest(value, at=at):
                    with self.assertRaises(InvalidCount) as caught:
                        account(SAFE, *numbers)
                    self.assertIs(caught.exception.value, value)
        for numbers in ((None, -1, True), (-1, None, None), (0, None, -1), (GREAT, GREAT + 1, None)):
            first = [one for one in numbers if one not in (0, GREAT)][0]
            with self.assertRaises(InvalidCount) as caught:
                account(SAFE, *numbers)
            self.assertIs(caught.exception.value, first)

    def test_by_name(self):
        self.assertEqual(account(losses=0, crashes=1, copies=0, way=SAFE), (1, 1, 1, 2))


def can_be(way, word):
    """What is known of the ways: whether any system of this way has an end that is so."""
    posting, keeping, answering, marking = way
    if word == "twice":
        # What comes into the inbox with the commit is never run again.
        return keeping != "inbox"
    if word == "lost":
        # Answered for ahead of the commit; posted behind it, out of no outbox; out of the outbox ahead of the relay.
        return answering == "ahead" or posting == "after" or (posting, marking) == ("outbox", "ahead")
    if word == "made":
        return posting == "before"
    if word == "unlike":
        # A run that is done once more tells other things - if the first one could be told.
        return keeping != "inbox" or posting == "before"
    return True


class TestWitness(unittest.TestCase):
    def test_document(self):
        self.assertEqual([witness(SAFE, word) is None for word in Words.ALL], [True, True, True, True, False])

    def test_all_ways_and_words(self):
        for way in Ways.every():
            for word in Words.ALL:
                with self.subTest(way, word=word):
                    told = witness(way, word)
                    self.assertIs(told is not None, can_be(way, word))
                    if told is None:
                        continue
                    self.assertIsInstance(told, tuple)
                    system, steps = told
                    self.assertIsInstance(steps, tuple)
                    self.assertEqual({one.way for one in system.services}, {way})
                    end = system.play(*steps)
                    self.assertEqual(system.possible(end), [])
                    self.assertIs(is_so(system, end, word), True)
                    self.assertIn(word, words_of(system, end))
                    self.assertEqual(judge(system, word)[0], "breaks")

    def test_drawn_systems_of_the_way(self):
        # No end of a drawn system is so by a word for which there is no witness.
        told = set()
        for seed in range(36 * 40):
            way = Ways.every()[seed % 36]
            spec = drawn_spec(seed, most_faults=3)
            for one in spec["services"]:
                one["way"] = way
            system = system_of(spec)
            for number in range(2):
                end = system.play(*drawn_steps(system, 2 * seed + number))
                for word in words_of(system, end):
                    self.assertTrue(can_be(way, word), (seed, way, word))
                    told.add((word, can_be(way, word)))
        self.assertEqual(told, {(word, True) for word in Words.ALL})

    def test_judge_agrees(self):
        # At every system of a way, as far as it is small.
        for seed in range(0, 360, 5):
            way = Ways.every()[seed // 10]
            spec = drawn_spec(seed, most_commands=2, most_kinds=3)
            for one in spec["services"]:
                one["way"] = way
            system = system_of(spec)
            if len(states_from(system, system.begin)) > 1000:
                continue
            for word in Words.ALL:
                if witness(way, word) is None:
                    self.assertEqual(judge(system, word)[0], "holds")

    def test_errors(self):
        for value in WRONG_WAYS + odd_values():
            for word in ("again", "none", None):
                with self.assertRaises(InvalidWay) as caught:
                    witness(value, word)
                self.assertIs(caught.exception.value, value)
        for value in [None, True, 0, "", "Twice", ("twice",), ["twice"], Words.ALL] + odd_values():
            with self.assertRaises(NoWord) as caught:
                witness(SAFE, value)
            self.assertIs(caught.exception.word, value)

    def test_the_same_again(self):
        self.assertEqual(witness(word="again", way=SAFE), witness(SAFE, "again"))
        system, steps = witness(SAFE, "again")
        self.assertIn(steps, [least for _, least in ends(system)])


if __name__ == "__main__":
    unittest.main()
