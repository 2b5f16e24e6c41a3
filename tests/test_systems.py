"""Systems: their form and properties [21] [22] [23], and their part of the interface."""

import copy
import itertools
import unittest

from oncepost.errors import InvalidSystem, NoWord
from oncepost.systems import Service, System
from oncepost.ways import Ways
from tests.samples import ADDER, adder_system, odd_values

BODY = ("body",)
YES = ("=", BODY, BODY)


def send(kind):
    return ("send", kind, None, BODY)


def deciding(yes, no):
    return ("if", YES, tuple(yes), tuple(no))


KINDS = ["add", "told", "x", "y", "z", "more"]
ADD = Service("adder", {"add": (send("told"), send("more"))})
TELL = Service("teller", {"told": (send("more"),)}, ("after", "late", "ahead", "ahead"), crashes=2)
COMMANDS = [("add", "k", 3), ("more", "j", -99), ("add", "k", 3)]

REASONS = ["kinds", "services", "names", "handled", "sends", "runs", "commands"]

# For each reason what makes it due without making another one due: what is put behind kinds, services, commands.
SPOILERS = {
    "kinds": (["Bad"], [], []),
    "services": ([], [None], []),
    "names": ([], [Service("adder", {"x": ()})], []),
    "handled": ([], [Service("other", {"gone": ()})], []),
    "sends": ([], [Service("sender", {"y": (send("x"),)})], []),
    "runs": ([], [Service("runner", {"z": (send("more"),) * 4})], []),
    "commands": ([], [], [("gone", "k", 1)]),
}


class SystemCase(unittest.TestCase):
    def refuse(self, reason, kinds=KINDS, services=(ADD, TELL), commands=()):
        with self.subTest(reason, kinds=kinds, services=services, commands=commands):
            with self.assertRaises(InvalidSystem) as caught:
                System(kinds, services, commands)
            self.assertEqual(caught.exception.reason, reason)


class TestRightSystems(SystemCase):
    def test_properties(self):
        system = System(KINDS, [TELL, ADD], COMMANDS)
        self.assertEqual(system.kinds, ("add", "told", "x", "y", "z", "more"))
        self.assertEqual(system.services, (ADD, TELL))
        self.assertEqual(system.commands, (("add", "k", 3), ("more", "j", -99), ("add", "k", 3)))
        self.assertEqual(system.world, ("x", "y", "z", "more"))
        for tree in (system.kinds, system.services, system.commands, system.world, system.begin, system.all_steps):
            self.assertIsInstance(tree, tuple)

    def test_the_world_in_the_order_of_the_system(self):
        system = System(["z", "b", "a", "y"], [Service("one", {"b": ()})])
        self.assertEqual(system.world, ("z", "a", "y"))
        self.assertEqual(System(["b"], [Service("one", {"b": ()})]).world, ())

    def test_begin(self):
        system = System(KINDS, [TELL, ADD], COMMANDS)
        logs = (
            ((((0,), ("add", "k", 3)), ((2,), ("add", "k", 3))), 0),
            ((), 0),
            ((), 0),
            ((), 0),
            ((), 0),
            ((((1,), ("more", "j", -99)),), 0),
        )
        adder = ((), (), (), ((), None, (), None), None, 0, 0)
        teller = ((), (), (), (), None, 2, 0)
        self.assertEqual(system.begin, (logs, (adder, teller)))

    def test_begin_without_commands(self):
        system = System(["add", "told"], [Service("s", {"add": ()}, losses=3)])
        self.assertEqual(system.commands, ())
        self.assertEqual(system.begin, ((((), 0), ((), 0)), (((), (), (), (), None, 0, 3),)))
        self.assertEqual(system.possible(system.begin), [])

    def test_all_steps_in_order(self):
        adder = Service("b", {"add": (send("z"), send("told")), "told": (send("z"),)})
        teller = Service("a", {"y": (send("x"), send("z"))}, ("before", "late", "behind", "behind"))
        system = System(["add", "told", "y", "z", "x"], [adder, teller])
        steps = (
            ("take", "add"), ("take", "told"), ("take", "y"),
            ("commit", "a"), ("commit", "b"),
            ("post", "a", "z"), ("post", "a", "x"),
            ("note", "a"),
            ("answer", "add"), ("answer", "told"), ("answer", "y"),
            ("relay", "b", "told"), ("relay", "b", "z"),
            ("mark", "b", "told"), ("mark", "b", "z"),
            ("lose", "a", "z"), ("lose", "a", "x"), ("lose", "b", "told"), ("lose", "b", "z"),
            ("crash", "a"), ("crash", "b"),
        )
        self.assertEqual(system.all_steps, steps)

    def test_kinds_that_cannot_be_come_to_are_sent(self):
        no = ("not", YES)
        handler = (("fail",), ("if", no, (send("b"),), ()), ("if", YES, (), (send("c"),)))
        system = System(["a", "b", "c", "d"], [Service("s", {"a": handler})])
        self.assertIn(("relay", "s", "b"), system.all_steps)
        self.assertIn(("relay", "s", "c"), system.all_steps)
        self.assertNotIn(("relay", "s", "d"), system.all_steps)
        self.assertEqual(system.begin[1][0][3], ((), None, (), None))

    def test_numbers_of_kinds_services_and_commands(self):
        words = ["a", "b", "c", "d", "e", "f"]
        for many in range(1, 7):
            self.assertEqual(System(words[:many], [Service("s", {"a": ()})]).kinds, tuple(words[:many]))
        for many in range(1, 5):
            services = [Service(word, {word: ()}) for word in words[:many]]
            self.assertEqual(System(words, services).services, tuple(services))
        for many in range(5):
            commands = [("b", "k", at) for at in range(many)]
            self.assertEqual(System(words, [Service("s", {"a": ()})], commands).commands, tuple(commands))

    def test_services_by_their_names(self):
        services = [Service(name, {kind: ()}) for name, kind in (("b", "x"), ("aa", "y"), ("c", "z"), ("ab", "w"))]
        for order in itertools.permutations(services):
            system = System(["w", "x", "y", "z"], list(order))
            self.assertEqual([service.name for service in system.services], ["aa", "ab", "b", "c"])

    def test_tuples_in_the_place_of_lists(self):
        one = System(KINDS, [ADD, TELL], COMMANDS)
        other = System(tuple(KINDS), (ADD, TELL), tuple(COMMANDS))
        self.assertEqual(one, other)
        self.assertEqual(one.begin, other.begin)

    def test_by_name(self):
        self.assertEqual(System(commands=COMMANDS, services=[ADD, TELL], kinds=KINDS), System(KINDS, [ADD, TELL], COMMANDS))

    def test_what_is_kept_is_copied(self):
        kinds, services, commands = list(KINDS), [ADD, TELL], list(COMMANDS)
        system = System(kinds, services, commands)
        for given in (kinds, services, commands):
            given.clear()
        self.assertEqual(system, System(KINDS, [ADD, TELL], COMMANDS))
        self.assertEqual((len(system.kinds), len(system.services), len(system.commands)), (6, 2, 3))

    def test_what_is_passed_stays(self):
        kinds, services, commands = list(KINDS), [TELL, ADD], list(COMMANDS)
        System(kinds, services, commands)
        self.assertEqual((kinds, commands), (KINDS, COMMANDS))
        self.assertIs(services[0], TELL)
        self.assertIs(services[1], ADD)

    def test_lists_that_are_returned_are_new(self):
        system = adder_system()
        steps = system.possible(system.begin)
        steps.clear()
        self.assertEqual(system.possible(system.begin), [("take", "add")])


class TestWrongSystems(SystemCase):
    def test_the_base_is_right(self):
        System(KINDS, [ADD, TELL], COMMANDS)

    def test_each_reason_and_several_at_once(self):
        for many in range(1, 8):
            for chosen in itertools.combinations(REASONS, many):
                given = [list(KINDS), [ADD, TELL], list(COMMANDS)]
                for reason in chosen:
                    for held, more in zip(given, SPOILERS[reason]):
                        held.extend(more)
                if len(given[1]) > 4 and chosen[0] != "kinds":
                    # Too many services are another fault.
                    continue
                self.refuse(chosen[0], *given)

    def test_kinds(self):
        words = ["add", "told", "x", "y", "z", "more", "w"]
        wrongs = [None, True, 0, "add", {"add": 1}, {"add", "told"}, [], (), words, tuple(words), [*KINDS[:5], "add"]]
        wrongs += [["add", "add"], ["add", None], ["add", 1], ["add", ""], ["add", "abcdefg"], ["add", "Told"], [["add"]]]
        wrongs += [[("add",)], ["add", ["told"]], ["add", {}], iter(KINDS)]
        for wrong in wrongs + odd_values():
            # Among these is a list that is right.
            if wrong == ["body"]:
                continue
            self.refuse("kinds", kinds=wrong)
            self.refuse("kinds", kinds=wrong, services=None, commands=None)
        for value in odd_values():
            self.refuse("kinds", kinds=[*KINDS[:5], value])

    def test_services(self):
        five = [Service(word, {word: ()}) for word in KINDS[:5]]
        wrongs = [None, True, 0, "adder", ADD, {"adder": ADD}, [], (), five, tuple(five)]
        wrongs += [[ADD, None], ["adder"], [ADD, TELL, ADDER], [[ADD]], [ADD, adder_system()], {ADD.name: ADD}, [Service]]
        for wrong in wrongs + odd_values():
            self.refuse("services", services=wrong)
            self.refuse("services", services=wrong, commands=None)

    def test_names(self):
        other = Service("adder", {"x": ()}, ("before", "plain", "ahead", "ahead"), crashes=1)
        self.refuse("names", services=[ADD, other])
        self.refuse("names", services=[ADD, TELL, other])
        self.refuse("names", services=[ADD, ADD])
        self.refuse("names", services=(TELL, ADD, TELL), commands=None)

    def test_handled(self):
        self.refuse("handled", services=[ADD, Service("other", {"gone": ()})])
        self.refuse("handled", services=[ADD, Service("other", {"x": (), "gone": ()})])
        self.refuse("handled", services=[ADD, Service("other", {"add": ()})])
        self.refuse("handled", services=[ADD, Service("other", {"x": (), "add": ()})])
        self.refuse("handled", kinds=["add", "more"], services=[ADD, TELL])
        self.refuse("handled", services=[ADD, Service("other", {"gone": (send("add"),) * 4})], commands=None)

    def test_sends(self):
        for handler in (
            (send("gone"),),
            (send("y"),),
            (send("add"),),
            (send("more"), send("told")),
            # also what cannot be come to
            (("fail",), send("x")),
            (("if", ("not", YES), (), (("if", YES, (), (send("gone"),)),)),),
            (send("gone"),) * 4,
        ):
            self.refuse("sends", services=[ADD, Service("other", {"y": handler})])
            self.refuse("sends", services=[ADD, Service("other", {"z": (), "y": handler})], commands=None)
        self.refuse("sends", kinds=["more", "told", "add"], services=[TELL])
        System(["add", "told", "more"], [TELL])

    def test_runs(self):
        three = (send("more"),) * 3
        right = [
            three,
            (("fail",), *three),
            (deciding(three, three),),
            (deciding(three, ()), deciding((), ())),
            (send("more"), deciding((send("more"),) * 2, (send("more"),))),
            (send("more"), deciding((), (deciding((send("more"),), (send("more"),) * 2),))),
            (deciding((deciding((deciding(three, ()),), ()),), three),),
            tuple(deciding((send("more"),), (send("more"),)) for _ in range(3)),
        ]
        wrong = [
            (*three, send("more")),
            (*three, ("fail",), send("more")),
            (("fail",), *three, send("more")),
            (deciding((), (*three, send("more"))),),
            (deciding((*three, send("more")), ()),),
            (send("more"), deciding(three, ())),
            (send("more"), deciding((), three)),
            (deciding(three, ()), deciding((), (send("more"),))),
            (deciding((("fail",), *three), ()), send("more")),
            (send("more"), deciding((), (deciding((send("more"),), (send("more"),) * 2), send("more")))),
            (deciding((deciding((deciding(three, ()),), ()),), three), send("more")),
            tuple(deciding((send("more"),), (send("more"),)) for _ in range(4)),
            (("if", ("not", YES), (send("more"),) * 4, ()),),
        ]
        for handler in right:
            System(KINDS, [Service("other", {"add": handler})])
        for handler in wrong:
            self.refuse("runs", services=[Service("other", {"add": handler})])
            self.refuse("runs", services=[TELL, Service("other", {"x": (), "add": handler})], commands=None)

    def test_commands(self):
        five = [("add", "k", at) for at in range(5)]
        wrongs = [None, True, 0, "add", five, tuple(five), ("add", "k", 3), {("add", "k", 3)}, {("add", "k", 3): 1}]
        wrongs += [[("gone", "k", 3)], [["add", "k", 3]], [("add", "k")], [("add", "k", 100)], [("add", "k", True)]]
        wrongs += [[("add", "K", 3)], [("add", None, 3)], [None], ["add"], [()], [("add", "k", 3), ("add", "k", "3")]]
        wrongs += [[(["add"], "k", 3)], [("add", "k", 3), [("add", "k", 3)]]]
        for wrong in wrongs + odd_values():
            # A list or a tuple without anything is right.
            if wrong not in ([], ()):
                self.refuse("commands", commands=wrong)
        for value in odd_values():
            self.refuse("commands", commands=[("add", "k", 3), value])

    def test_what_is_refused_stays(self):
        kinds, services, commands = ["add", "told", "more"], [TELL, ADD, TELL], [["add", "k", [3]]]
        before = (list(kinds), list(services), copy.deepcopy(commands))
        self.refuse("names", kinds, services, commands)
        self.assertEqual((kinds, services, commands), before)
        self.refuse("commands", kinds, services[:2], commands)
        self.assertEqual((kinds, services, commands), before)


class TestServiceOf(unittest.TestCase):
    def test_services_and_the_world(self):
        system = System(KINDS, [ADD, TELL])
        names = [system.service_of(kind) for kind in KINDS]
        self.assertEqual(names, ["adder", "teller", None, None, None, None])
        self.assertEqual(system.service_of(kind="add"), "adder")

    def test_no_word(self):
        system = System(KINDS, [ADD, TELL])
        for value in odd_values() + [None, "", "adder", "gone", "ad", ("add",), ["add"], {"add": 1}, 0, ADD, system]:
            with self.assertRaises(NoWord) as caught:
                system.service_of(value)
            self.assertIs(caught.exception.word, value)


class TestEqual(unittest.TestCase):
    def test_the_same_parts(self):
        self.assertEqual(System(KINDS, [ADD, TELL], COMMANDS), System(KINDS, [ADD, TELL], COMMANDS))
        self.assertFalse(System(KINDS, [ADD]) != System(KINDS, [ADD]))
        rebuilt = Service("adder", {"add": (send("told"), send("more"))})
        self.assertEqual(System(KINDS, [rebuilt]), System(KINDS, [ADD]))

    def test_services_in_another_order(self):
        self.assertEqual(System(KINDS, [ADD, TELL]), System(KINDS, [TELL, ADD]))

    def test_other_parts(self):
        others = [
            System(KINDS, [ADD, TELL], COMMANDS),
            System(KINDS, [ADD, TELL], COMMANDS[:2]),
            System(KINDS, [ADD, TELL], COMMANDS[1:]),
            System(KINDS, [ADD], COMMANDS),
            System(KINDS, [TELL], COMMANDS),
            System(["add", "told", "y", "x", "z", "more"], [ADD, TELL], COMMANDS),
            System(["add", "told", "more"], [ADD, TELL], COMMANDS),
            System(KINDS, [ADD, TELL], COMMANDS).with_budgets([(0, 0), (0, 0)]),
            System(KINDS, [ADD, TELL], COMMANDS).with_ways({"adder": ("outbox", "late", "behind", "behind")}),
        ]
        for one, other in itertools.permutations(others, 2):
            self.assertFalse(one == other)
            self.assertTrue(one != other)

    def test_no_systems(self):
        system = adder_system()
        for value in odd_values() + [None, 0, "system", system.services, system.begin, Ways.SAFE, ADD]:
            if value.__class__ is not System:
                self.assertFalse(system == value)
                self.assertTrue(system != value)
                self.assertFalse(value == system)


if __name__ == "__main__":
    unittest.main()
