"""Other ways that mend a system [53]."""

import copy
import itertools
import unittest

from oncepost.errors import InvalidCount, InvalidWay, NoService, NoWord
from oncepost.judging import Words, mend
from oncepost.systems import Service, System
from oncepost.ways import Ways
from tests.listing import states_from
from tests.samples import adder_system, odd_values
from tests.test_judging import PASS, words_of

SAFE = Ways.SAFE
LATE = ("outbox", "late", "behind", "behind")
PLAIN = ("outbox", "plain", "behind", "behind")
MARKED = ("outbox", "inbox", "behind", "ahead")
AHEAD = ("outbox", "inbox", "ahead", "behind")
BEFORE = ("before", "inbox", "behind", "behind")


def chain(first=PLAIN, second=PLAIN):
    """Two services, the first of which sends a message to the second, each with a crash."""
    services = [Service("ann", {"a": PASS}, first, crashes=1), Service("bob", {"b": ()}, second, crashes=1)]
    return System(["a", "b"], services, [("a", "k", 1)])


def expected(system, words, choices):
    """The first of all ways to choose with which no state that schedules lead to is an end that is so."""
    names = sorted(choices)
    for ways in itertools.product(*[choices[name] for name in names]):
        chosen = dict(zip(names, ways))
        changed = system.with_ways(chosen)
        ends = [state for state in states_from(changed, changed.begin) if not changed.possible(state)]
        if not any(words_of(changed, end) & set(words) for end in ends):
            return chosen
    return None


class TestMend(unittest.TestCase):
    def test_document(self):
        choices = {"adder": [LATE, SAFE]}
        self.assertEqual(mend(adder_system(), ["twice"], choices), {"adder": SAFE})
        self.assertEqual(mend(adder_system(), ["again"], choices), None)
        self.assertEqual(mend(choices=choices, words=["lost"], system=adder_system()), {"adder": LATE})

    def test_all_ways_of_one_service(self):
        system = adder_system(crashes=1)
        for many in range(4):
            for words in itertools.combinations(Words.ALL, many):
                for ways in (Ways.every(), Ways.every()[::-1]):
                    choices = {"adder": ways}
                    with self.subTest(words):
                        self.assertEqual(mend(system, list(words), choices), expected(system, words, choices))

    def test_two_services(self):
        system = chain()
        found = set()
        lists = [[PLAIN, MARKED], [LATE, SAFE, AHEAD], [AHEAD, SAFE], [BEFORE, LATE], [SAFE]]
        for first, second in itertools.product(lists, lists):
            choices = {"bob": second, "ann": first}
            for words in (["twice"], ["lost"], ["twice", "lost"], ["unlike", "made"], []):
                told = mend(system, words, choices)
                with self.subTest(words, choices=choices):
                    self.assertEqual(told, expected(system, words, choices))
                found.add(None if told is None else (told["ann"], told["bob"]))
        self.assertGreater(len(found), 8)

    def test_the_last_service_changes_fastest(self):
        # Nothing is so: the first choice is told; with a word that the first way of bob breaks, his second one.
        system = chain(SAFE, SAFE)
        choices = {"bob": [LATE, SAFE], "ann": [SAFE, AHEAD]}
        self.assertEqual(mend(system, [], choices), {"ann": SAFE, "bob": LATE})
        self.assertEqual(mend(system, ["twice"], choices), {"ann": SAFE, "bob": SAFE})
        # If it is broken by both services' first ways.
        choices = {"bob": [LATE, SAFE], "ann": [LATE, SAFE, AHEAD]}
        self.assertEqual(mend(system, ["twice"], choices), {"ann": SAFE, "bob": SAFE})
        # Two choices mend it: of these the one with the earlier way of ann.
        choices = {"bob": [AHEAD, SAFE, BEFORE], "ann": [MARKED, BEFORE, SAFE]}
        self.assertEqual(mend(system, ["lost"], choices), {"ann": BEFORE, "bob": SAFE})

    def test_the_order_of_the_keys_means_nothing(self):
        # Bob gets a message twice only if ann relays it again, which with MARKED she does not.
        services = [Service("ann", {"a": PASS}, PLAIN, crashes=1), Service("bob", {"b": ()})]
        system = System(["a", "b"], services, [("a", "k", 1)])
        for names in (("ann", "bob"), ("bob", "ann")):
            lists = {"ann": [SAFE, MARKED], "bob": [PLAIN, SAFE]}
            choices = {name: lists[name] for name in names}
            self.assertEqual(mend(system, ["twice"], choices), {"ann": SAFE, "bob": SAFE})
            lists = {"ann": [SAFE, MARKED], "bob": [PLAIN, PLAIN]}
            choices = {name: lists[name] for name in names}
            self.assertEqual(mend(system, ["twice"], choices), {"ann": MARKED, "bob": PLAIN})

    def test_one_of_two_services(self):
        # Bob keeps his way, with which a message is handled twice.
        system = chain(PLAIN, PLAIN)
        self.assertIsNone(mend(system, ["twice"], {"ann": [SAFE, AHEAD]}))
        self.assertEqual(mend(chain(PLAIN, SAFE), ["twice"], {"ann": [LATE, SAFE]}), {"ann": SAFE})
        self.assertIsNone(mend(chain(PLAIN, SAFE), ["twice"], {"bob": [SAFE]}))

    def test_none_to_choose(self):
        for system in (chain(SAFE, SAFE), chain(PLAIN, SAFE)):
            self.assertEqual(mend(system, (), {}), {})
            self.assertEqual(mend(system, ["made"], {}), {})
        self.assertEqual(mend(chain(SAFE, SAFE), ["twice", "lost", "made", "unlike"], {}), {})
        self.assertIsNone(mend(chain(PLAIN, SAFE), ["twice"], {}))
        self.assertIsNone(mend(adder_system(), ["again"], {}))

    def test_words_several_times(self):
        self.assertEqual(mend(adder_system(), ["twice", "twice", "lost"], {"adder": [LATE, SAFE]}), {"adder": SAFE})
        self.assertEqual(mend(adder_system(), ("twice",), {"adder": (LATE, SAFE, SAFE)}), {"adder": SAFE})


class TestErrors(unittest.TestCase):
    def refuse(self, error, value, words, choices, system=None):
        with self.subTest(words=words, choices=choices):
            with self.assertRaises(error) as caught:
                mend(system or chain(), words, choices)
            (told,) = vars(caught.exception).values()
            self.assertIs(told, value)

    def test_no_word(self):
        for value in [None, True, 0, "", "Twice", ("twice",), ["twice"], Words.ALL] + odd_values():
            self.refuse(NoWord, value, [value], {})
            self.refuse(NoWord, value, ["twice", value, None], {"ann": [SAFE]})
            self.refuse(NoWord, value, (value,), {"x": [], "ann": [None]})

    def test_no_service(self):
        for value in [None, True, 0, "", "carl", "a", ("ann",), (), 1]:
            self.refuse(NoService, value, [], {value: [SAFE]})
            self.refuse(NoService, value, ["twice"], {"ann": [SAFE], value: [SAFE]})
            self.refuse(NoService, value, [], {value: [], "ann": [None], "bob": []})
        # Of several any one.
        with self.assertRaises(NoService) as caught:
            mend(chain(), [], {"x": [], "y": []})
        self.assertIn(caught.exception.value, ("x", "y"))

    def test_invalid_way(self):
        wrong = [None, True, 0, "", (), list(SAFE), SAFE[:3], (*SAFE, "behind"), ("inbox", *SAFE[1:]), (SAFE,)]
        for value in wrong + odd_values():
            self.refuse(InvalidWay, value, [], {"ann": [value]})
            self.refuse(InvalidWay, value, [], {"ann": [SAFE, value, None], "bob": []})
            self.refuse(InvalidWay, value, ["lost"], {"bob": [SAFE, value], "ann": [SAFE]})
            self.refuse(InvalidWay, value, ["lost"], {"bob": [(0,)], "ann": [value]})
            self.refuse(InvalidWay, value, ["lost"], {"bob": [value], "ann": []})
        # A way is no list of ways.
        self.refuse(InvalidWay, "outbox", [], {"ann": SAFE})

    def test_invalid_count(self):
        for choices in ({"ann": []}, {"ann": [], "bob": [SAFE]}, {"ann": [SAFE], "bob": ()}, {"ann": [], "bob": []}):
            self.refuse(InvalidCount, choices, [], choices)
            self.refuse(InvalidCount, choices, ["twice"], choices)
        many = [{"ann": [SAFE] * 41}, {"ann": [SAFE] * 7, "bob": [SAFE] * 6}, {"ann": [SAFE] * 20, "bob": [SAFE] * 3}]
        for choices in many + [{"ann": [SAFE] * 10 ** 5, "bob": [LATE] * 10 ** 5}]:
            self.refuse(InvalidCount, choices, [], choices)
        # An empty list beside a long one.
        choices = {"ann": [SAFE] * 41, "bob": []}
        self.refuse(InvalidCount, choices, [], choices)

    def test_forty(self):
        self.assertEqual(mend(chain(), ["twice"], {"ann": [LATE] * 39 + [SAFE], "bob": [SAFE]}), {"ann": SAFE, "bob": SAFE})
        choices = {"ann": [LATE] * 4 + [SAFE], "bob": [PLAIN] * 7 + [SAFE]}
        self.assertEqual(mend(chain(), ["twice"], choices), {"ann": SAFE, "bob": SAFE})
        self.assertIsNone(mend(chain(), ["twice"], {"ann": [LATE] * 40}))

    def test_each_two_at_once(self):
        wrong = {NoWord: ["x"], NoService: {"x": [SAFE]}, InvalidWay: {"ann": [None]}, InvalidCount: {"bob": []}}
        order = list(wrong)
        for first, second in itertools.combinations(order, 2):
            words = wrong[NoWord] if first == NoWord else []
            choices = {**(wrong[first] if first != NoWord else {}), **wrong[second]}
            with self.assertRaises(first) as caught:
                mend(chain(), words, choices)
            self.assertIs(caught.exception.__class__, first)


class TestCalls(unittest.TestCase):
    def test_nothing_is_changed(self):
        system = chain()
        words, choices = ["twice", "lost"], {"bob": [LATE, SAFE], "ann": [PLAIN, SAFE]}
        before = copy.deepcopy((words, choices))
        for _ in range(2):
            told = mend(system, words, choices)
            self.assertEqual(told, {"ann": SAFE, "bob": SAFE})
            self.assertEqual((words, choices), before)
            told.clear()
        self.assertEqual(system, chain())

    def test_a_new_dict(self):
        choices = {}
        self.assertIsNot(mend(chain(), [], choices), choices)
        ways = {"ann": [SAFE]}
        mend(chain(), [], ways)["ann"] = None
        self.assertEqual(ways, {"ann": [SAFE]})


if __name__ == "__main__":
    unittest.main()
