"""Services [21] and their part of the interface."""

import copy
import itertools
import unittest

from oncepost.errors import InvalidService, NoWord
from oncepost.handlers import run_handler
from oncepost.systems import Service
from oncepost.ways import Ways
from tests.samples import ADDER, FULL, odd_values

TELL = (("send", "told", None, ("body",)),)

NO_NAMES = [None, True, 0, "", "abcdefg", "Ann", "a1", "a b", "ann\n", b"ann", ("ann",), ["ann"], {}, Service]
NO_HANDLERS = [
    None,
    0,
    "add",
    (),
    [],
    {},
    ADDER,
    [("add", ADDER)],
    (("add", ADDER),),
    {"add"},
    # four kinds
    {"a": (), "b": (), "c": (), "d": ()},
    # no kinds
    {"": ADDER},
    {"abcdefg": ADDER},
    {"Add": ADDER},
    {None: ADDER},
    {1: ADDER},
    {True: ADDER},
    {("add",): ADDER},
    {"add": ADDER, "b1": ADDER},
    # no handlers
    {"add": None},
    {"add": [("fail",)]},
    {"add": ("fail",)},
    {"add": (("set", "n"),)},
    {"add": (("fail",),) * 13},
    {"add": {}},
    {"add": ADDER, "more": ADDER, "other": (("send", "told", None, ("value", True)),)},
]
NO_WAYS = [
    None,
    True,
    "",
    "outbox",
    (),
    ("outbox",),
    ("outbox", "inbox", "behind"),
    ("outbox", "inbox", "behind", "behind", "behind"),
    ["outbox", "inbox", "behind", "behind"],
    (["outbox"], "inbox", "behind", "behind"),
    ("inbox", "inbox", "behind", "behind"),
    ("outbox", "outbox", "behind", "behind"),
    ("outbox", "inbox", "before", "behind"),
    ("outbox", "inbox", "behind", "after"),
    ("Outbox", "inbox", "behind", "behind"),
    ("outbox", "inbox", "behind", ""),
    ("outbox", "inbox", None, "behind"),
    ("outbox", ("inbox",), "behind", "behind"),
    (0, 0, 0, 0),
    (Ways.SAFE,),
    {"outbox": "inbox"},
]
NO_BUDGETS = [-1, 4, 10 ** 109, True, False, None, "1", "", (), (1,), [1], {}, {1: 1}]


def service(**changed):
    given = {"name": "adder", "handlers": {"add": ADDER}, "way": Ways.SAFE, "crashes": 1, "losses": 2, **changed}
    return Service(given["name"], given["handlers"], given["way"], crashes=given["crashes"], losses=given["losses"])


def is_key(value):
    """Whether it can be a key of a dict."""
    try:
        return {value: True}[value]
    except TypeError:
        return False


class TestRightServices(unittest.TestCase):
    def test_properties(self):
        one = service()
        self.assertEqual((one.name, one.kinds, one.way), ("adder", ("add",), Ways.SAFE))
        self.assertEqual((one.crashes, one.losses), (1, 2))
        self.assertEqual(one.handler_for("add"), ADDER)

    def test_defaults(self):
        one = Service("adder", {"add": ADDER})
        self.assertEqual((one.way, one.crashes, one.losses), (Ways.SAFE, 0, 0))

    def test_by_name_in_any_order(self):
        way = ("after", "late", "ahead", "ahead")
        one = Service(losses=1, way=way, handlers={"add": ()}, crashes=3, name="x")
        self.assertEqual((one.name, one.kinds, one.way, one.crashes, one.losses), ("x", ("add",), way, 3, 1))

    def test_budgets_are_passed_by_name_alone(self):
        self.assertRaises(TypeError, Service, "adder", {"add": ADDER}, Ways.SAFE, 1)

    def test_one_two_and_three_kinds_ascending(self):
        for kinds in (["b"], ["b", "a"], ["b", "c", "a"], ["b", "ba", "aa"]):
            one = service(handlers={kind: (("set", kind, ("body",)),) for kind in kinds})
            self.assertEqual(one.kinds, tuple(sorted(kinds)))
            for kind in kinds:
                self.assertEqual(one.handler_for(kind), (("set", kind, ("body",)),))

    def test_empty_handlers_and_the_longest_words(self):
        one = service(name="zzzzzz", handlers={"abcdef": ()})
        self.assertEqual((one.name, one.kinds, one.handler_for("abcdef")), ("zzzzzz", ("abcdef",), ()))

    def test_each_way_and_each_budget(self):
        for way in Ways.every():
            self.assertEqual(service(way=way).way, way)
        for crashes, losses in itertools.product(range(4), repeat=2):
            one = service(crashes=crashes, losses=losses)
            self.assertEqual((one.crashes, one.losses), (crashes, losses))

    def test_what_is_kept_is_copied(self):
        handlers = {"add": ADDER}
        one = service(handlers=handlers)
        handlers["add"] = ()
        handlers["more"] = ADDER
        self.assertEqual((one.kinds, one.handler_for("add")), (("add",), ADDER))
        self.assertRaises(NoWord, one.handler_for, "more")
        self.assertEqual(one, service())

    def test_what_is_passed_stays(self):
        handlers = {"b": ADDER, "a": FULL}
        service(handlers=handlers)
        self.assertEqual(list(handlers.items()), [("b", ADDER), ("a", FULL)])

    def test_no_word(self):
        one = service(handlers={"add": ADDER, "more": ()})
        for value in odd_values() + [None, 0, "told", "adder", "ad", ("add",), ["add"], {"add": 1}, one]:
            with self.assertRaises(NoWord) as caught:
                one.handler_for(value)
            self.assertIs(caught.exception.word, value)

    def test_the_handler_can_be_run(self):
        end = run_handler(service().handler_for(kind="add"), (), ("add", "k", 3))
        self.assertEqual(end, ("done", ((("n", "k"), 3),), (("told", "k", 3),)))


class TestWrongServices(unittest.TestCase):
    def refuse(self, reason, **changed):
        with self.subTest(reason, **changed):
            with self.assertRaises(InvalidService) as caught:
                service(**changed)
            self.assertEqual(caught.exception.reason, reason)

    def test_what_is_refused_stays(self):
        wrong = {"add": [["set", "n", {"a": [1]}]], "b": ADDER}
        before = copy.deepcopy(wrong)
        self.refuse("handlers", handlers=wrong)
        self.assertEqual(wrong, before)
        self.assertEqual(list(wrong), ["add", "b"])

    def test_each_alone(self):
        wrongs = [("name", NO_NAMES), ("handlers", NO_HANDLERS), ("way", NO_WAYS)]
        wrongs += [("crashes", NO_BUDGETS), ("losses", NO_BUDGETS)]
        for name, values in wrongs:
            for value in values:
                self.refuse(name, **{name: value})

    def test_any_values(self):
        for name in ("name", "handlers", "way", "crashes", "losses"):
            for value in odd_values() + [service()]:
                with self.subTest(name, value=value):
                    with self.assertRaises(InvalidService) as caught:
                        service(**{name: value})
                    self.assertEqual(caught.exception.reason, name)

    def test_any_values_as_kinds_and_handlers(self):
        for value in odd_values():
            if is_key(value):
                self.refuse("handlers", handlers={"add": ADDER, value: ADDER})
            with self.assertRaises(InvalidService) as caught:
                service(handlers={"add": ADDER, "more": value})
            self.assertEqual(caught.exception.reason, "handlers")

    def test_the_first_of_several(self):
        wrong = {"name": "", "handlers": {}, "way": None, "crashes": 4, "losses": -1}
        names = list(wrong)
        for many in range(1, 6):
            for chosen in itertools.combinations(names, many):
                self.refuse(chosen[0], **{name: wrong[name] for name in chosen})


class TestEqual(unittest.TestCase):
    def test_the_same_parts(self):
        self.assertEqual(service(), service())
        self.assertFalse(service() != service())
        copied = copy.deepcopy(ADDER)
        self.assertEqual(service(handlers={"add": copied}), service())

    def test_handlers_put_in_another_order(self):
        one = service(handlers={"a": ADDER, "b": FULL, "c": ()})
        other = service(handlers={"c": (), "b": FULL, "a": ADDER})
        self.assertEqual(one, other)

    def test_defaults_told(self):
        one = Service("adder", {"add": ADDER})
        self.assertEqual(one, Service("adder", {"add": ADDER}, Ways.SAFE, crashes=0, losses=0))

    def test_another_part(self):
        others = [
            service(name="add"),
            service(handlers={"add": ()}),
            service(handlers={"more": ADDER}),
            service(handlers={"add": ADDER, "more": ADDER}),
            service(way=("outbox", "inbox", "behind", "ahead")),
            service(crashes=2),
            service(losses=1),
            service(crashes=2, losses=1),
        ]
        for one, other in itertools.permutations([service(), *others], 2):
            self.assertFalse(one == other)
            self.assertTrue(one != other)

    def test_handlers_that_changed_kinds(self):
        one = service(handlers={"a": ADDER, "b": TELL})
        self.assertNotEqual(one, service(handlers={"a": TELL, "b": ADDER}))

    def test_no_services(self):
        for value in odd_values() + [None, "adder", service().kinds, ("adder", {"add": ADDER}, Ways.SAFE, 1, 2)]:
            self.assertFalse(service() == value)
            self.assertTrue(service() != value)
            self.assertFalse(value == service())


if __name__ == "__main__":
    unittest.main()
