"""The lines of steps [30], and systems with other budgets and ways."""

import itertools
import unittest

from oncepost.errors import InvalidCount, InvalidWay, NoService, NoWord
from oncepost.systems import Service, System
from oncepost.ways import Ways
from tests.samples import ADDER, adder_system, odd_values
from tests.test_services import NO_BUDGETS, NO_WAYS

BODY = ("body",)
HANDLER = (("send", "z", None, BODY), ("send", "told", None, BODY))


def system_with(way):
    """Bob sends z and told, in this order of the system, and has another service beside him."""
    bob = Service("bob", {"add": HANDLER, "more": ()}, way)
    return System(["add", "more", "z", "told"], [bob, Service("ann", {"told": ()})])


class TestLines(unittest.TestCase):
    def test_outbox(self):
        system = system_with(("outbox", "late", "behind", "behind"))
        hand, told, z = ("hand", "bob"), ("out", "bob", "told"), ("out", "bob", "z")
        lines = {
            ("take", "add"): (hand, ("log", "add")),
            ("take", "told"): (("hand", "ann"), ("log", "told")),
            ("answer", "more"): (hand, ("log", "more")),
            # Ascending as Python compares them, though z comes before told in the system.
            ("commit", "bob"): (hand, told, z),
            ("commit", "ann"): (("hand", "ann"),),
            ("note", "bob"): (hand,),
            ("relay", "bob", "z"): (("log", "z"), z),
            ("mark", "bob", "told"): (told,),
            ("lose", "bob", "told"): (("log", "told"), ("loss", "bob"), told),
            ("crash", "bob"): (hand, told, z),
            ("crash", "ann"): (("hand", "ann"),),
        }
        for step, told_lines in lines.items():
            self.assertEqual(system.lines_of(step), told_lines)
            self.assertEqual(system.lines_of(step=step), told_lines)

    def test_posts(self):
        for posting in ("after", "before"):
            system = system_with((posting, "late", "ahead", "ahead"))
            hand = ("hand", "bob")
            lines = {
                ("take", "add"): (hand, ("log", "add")),
                ("answer", "add"): (hand, ("log", "add")),
                ("commit", "bob"): (hand,),
                ("note", "bob"): (hand,),
                ("post", "bob", "z"): (hand, ("log", "z")),
                ("lose", "bob", "z"): (hand, ("log", "z"), ("loss", "bob")),
                ("crash", "bob"): (hand,),
            }
            for step, told_lines in lines.items():
                self.assertEqual(system.lines_of(step), told_lines)

    def test_apart(self):
        system = system_with(Ways.SAFE)
        relay = ("relay", "bob", "z")
        for other, told in (
            (relay, False),
            (("mark", "bob", "z"), False),
            (("mark", "bob", "told"), True),
            (("relay", "bob", "told"), True),
            (("commit", "bob"), False),
            (("crash", "bob"), False),
            (("crash", "ann"), True),
            (("take", "add"), True),
            (("lose", "bob", "told"), True),
            (("lose", "bob", "z"), False),
        ):
            self.assertIs(system.apart(relay, other), told)
            self.assertIs(system.apart(other=relay, one=other), told)
        self.assertFalse(system.apart(("take", "told"), ("relay", "bob", "told")))
        self.assertFalse(system.apart(("lose", "bob", "told"), ("lose", "bob", "z")))

    def test_no_word(self):
        system = adder_system()
        wrong = [None, (), "take", ("take",), ("take", "told"), ("take", "adder"), ["take", "add"], ("note", "adder")]
        wrong += [("post", "adder", "told"), ("take", "add", "add"), ("take", True), (("take",), "add"), ("take", ["add"])]
        for value in wrong + odd_values():
            for call in (
                lambda: system.lines_of(value),
                lambda: system.apart(value, ("take", "add")),
                lambda: system.apart(("take", "add"), value),
                lambda: system.apart(value, None),
                lambda: system.apart(value, ("gone",)),
            ):
                with self.assertRaises(NoWord) as caught:
                    call()
                self.assertIs(caught.exception.word, value)


class TestWithBudgets(unittest.TestCase):
    def setUp(self):
        self.system = system_with(Ways.SAFE)

    def test_right_ones(self):
        for pair in itertools.product(range(4), repeat=2):
            system = self.system.with_budgets([pair, (1, 2)])
            self.assertEqual([(one.crashes, one.losses) for one in system.services], [pair, (1, 2)])
            # By names: ann first.
            self.assertEqual([one.name for one in system.services], ["ann", "bob"])
            self.assertEqual(system.with_budgets(budgets=((0, 0), (0, 0))), self.system)
            self.assertEqual([part[5:] for part in system.begin[1]], [pair, (1, 2)])

    def test_all_else_stays(self):
        system = adder_system(2, ("after", "late", "ahead", "behind")).with_budgets([(0, 3)])
        self.assertEqual((system.kinds, system.commands), (("add", "told"), (("add", "k", 3),)))
        self.assertEqual(system.services[0].way, ("after", "late", "ahead", "behind"))
        self.assertEqual(system.services[0].handler_for("add"), ADDER)

    def test_the_system_and_the_list_stay(self):
        budgets = [(1, 1), (2, 2)]
        system = self.system.with_budgets(budgets)
        budgets[0] = (3, 3)
        self.assertEqual(system.services[0].crashes, 1)
        self.assertEqual(self.system, system_with(Ways.SAFE))
        self.assertEqual(self.system.services[0].crashes, 0)

    def test_wrong_ones(self):
        pair = (1, 1)
        wrong = [None, True, 0, "", (), [], pair, [pair], [pair] * 3, {0: pair, 1: pair}, (1, 1, 1, 1), "ab", [None, pair]]
        wrong += [[list(pair), pair], [pair, [1, 1]], [pair, (1,)], [pair, (1, 1, 1)], [pair, ()], [pair, "ab"], [1, 1]]
        wrong += [[pair, (value, 1)] for value in NO_BUDGETS] + [[(1, value), pair] for value in NO_BUDGETS]
        for value in wrong + odd_values():
            with self.subTest(value):
                with self.assertRaises(InvalidCount) as caught:
                    self.system.with_budgets(value)
                self.assertIs(caught.exception.value, value)


class TestWithWays(unittest.TestCase):
    def setUp(self):
        self.system = system_with(Ways.SAFE).with_budgets([(1, 2), (3, 0)])
        self.late = ("before", "late", "ahead", "behind")

    def ways(self, system):
        return [one.way for one in system.services]

    def test_right_ones(self):
        self.assertEqual(self.ways(self.system.with_ways({"ann": self.late})), [self.late, Ways.SAFE])
        self.assertEqual(self.ways(self.system.with_ways(ways={"bob": self.late})), [Ways.SAFE, self.late])
        self.assertEqual(self.ways(self.system.with_ways({"bob": self.late, "ann": self.late})), [self.late] * 2)
        self.assertEqual(self.system.with_ways({}), self.system)
        for way in Ways.every():
            self.assertEqual(self.ways(self.system.with_ways({"bob": way})), [Ways.SAFE, way])

    def test_all_else_stays(self):
        system = self.system.with_ways({"bob": self.late})
        self.assertEqual([(one.crashes, one.losses) for one in system.services], [(1, 2), (3, 0)])
        self.assertEqual(system.services[1].handler_for("add"), HANDLER)
        self.assertEqual((system.kinds, system.commands), (self.system.kinds, self.system.commands))
        self.assertIn(("post", "bob", "z"), system.all_steps)
        self.assertNotIn(("post", "bob", "z"), self.system.all_steps)
        self.assertEqual(self.ways(self.system), [Ways.SAFE] * 2)

    def test_what_is_passed_stays(self):
        ways = {"bob": self.late, "ann": Ways.SAFE}
        system = self.system.with_ways(ways)
        self.assertEqual(list(ways.items()), [("bob", self.late), ("ann", Ways.SAFE)])
        ways.clear()
        self.assertEqual(self.ways(system), [Ways.SAFE, self.late])

    def test_no_service(self):
        for name in (None, 0, True, "", "cy", "add", "Bob", ("bob",), 10 ** 109, ((),)):
            for ways in ({name: self.late}, {"bob": self.late, name: self.late}, {"bob": None, name: None}):
                with self.assertRaises(NoService) as caught:
                    self.system.with_ways(ways)
                self.assertEqual(caught.exception.value, name)
        with self.assertRaises(NoService) as caught:
            self.system.with_ways({"cy": self.late, "dan": self.late})
        self.assertIn(caught.exception.value, ("cy", "dan"))

    def test_invalid_way(self):
        for way in NO_WAYS + odd_values():
            for ways in ({"bob": way}, {"bob": way, "ann": self.late}, {"bob": None, "ann": way}):
                with self.assertRaises(InvalidWay) as caught:
                    self.system.with_ways(ways)
                self.assertIs(caught.exception.value, way)


if __name__ == "__main__":
    unittest.main()
