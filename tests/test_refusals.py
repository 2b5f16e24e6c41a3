"""What run_handler refuses, in which order, and with which value [2] [3] [10]."""

import copy
import unittest

from oncepost.errors import InvalidHandler, InvalidMessage, InvalidRows
from oncepost.handlers import run_handler
from tests.samples import ADDER, FULL, MESSAGE, ROWS, odd_values

NO_HANDLERS = [None, 0, "", "fail", [], {}, list(ADDER), ("fail",), (("set", "n"),), (("fail",),) * 13]

NO_ROWS = [
    None,
    0,
    "",
    "rows",
    [],
    {},
    {("n", "k"): 98},
    list(ROWS),
    # no rows
    (("n", "k"), 98),
    ((("n", "k"),),),
    ((("n", "k"), 98, 1),),
    (("n", "k", 98),),
    ("n", "k", 98),
    ((("n",), 98),),
    ((("n", "k", "k"), 98),),
    ((("n", "k"), (98,)),),
    ((),),
    ((None, 98),),
    (("nk", 98),),
    (None,),
    # not ascending
    ((("n", "k"), 1), (("a", "k"), 1)),
    ((("n", "k"), 1), (("n", "j"), 1)),
    ((("b", "a"), 1), (("a", "b"), 1)),
    ((("a", "a"), 1), (("c", "a"), 1), (("b", "a"), 1)),
    # a place twice
    ((("n", "k"), 1), (("n", "k"), 1)),
    ((("n", "k"), 1), (("n", "k"), 2)),
    # other values
    ((("n", "k"), 0),),
    ((("n", "k"), True),),
    ((("n", "k"), False),),
    ((("n", "k"), 100),),
    ((("n", "k"), -100),),
    ((("n", "k"), 10 ** 109),),
    ((("n", "k"), None),),
    ((("n", "k"), "1"),),
    (*ROWS, (("z", "z"), 0)),
    # lists where tuples stand
    ([("n", "k"), 98],),
    ((["n", "k"], 98),),
    (*ROWS, [("z", "z"), 1]),
    # no words
    ((("", "k"), 1),),
    ((("n", ""), 1),),
    ((("abcdefg", "k"), 1),),
    ((("n", "abcdefg"), 1),),
    ((("N", "k"), 1),),
    ((("n", "1"), 1),),
    (((None, "k"), 1),),
    ((("n", None), 1),),
    (((1, "k"), 1),),
    ((("n", ("k",)), 1),),
]

NO_MESSAGES = [
    None,
    0,
    "",
    "add",
    (),
    [],
    {},
    list(MESSAGE),
    (MESSAGE,),
    ("add", "k"),
    ("add", "k", 3, 3),
    ("add", None, 3),
    (None, "k", 3),
    ("add", "k", None),
    ("", "k", 3),
    ("add", "", 3),
    ("abcdefg", "k", 3),
    ("add", "abcdefg", 3),
    ("Add", "k", 3),
    ("add", "k1", 3),
    ("add", "k", True),
    ("add", "k", False),
    ("add", "k", 100),
    ("add", "k", -100),
    ("add", "k", 10 ** 109),
    ("add", "k", "3"),
    ("add", "k", (3,)),
    ("add", ("k",), 3),
    (["add"], "k", 3),
    ("add", {}, 3),
]


class RefusalCase(unittest.TestCase):
    def refuse(self, error_class, value, handler, rows, message):
        with self.subTest(handler=handler, rows=rows, message=message):
            with self.assertRaises(error_class) as caught:
                run_handler(handler, rows, message)
            self.assertIs(caught.exception.__class__, error_class)
            self.assertIs(caught.exception.value, value)


class TestOneWrongArgument(RefusalCase):
    def test_document(self):
        with self.assertRaises(InvalidHandler) as caught:
            run_handler((("set", "n"),), (), ("add", "k", 3))
        self.assertEqual(caught.exception.value, (("set", "n"),))

    def test_handlers(self):
        for value in NO_HANDLERS + odd_values():
            self.refuse(InvalidHandler, value, value, ROWS, MESSAGE)

    def test_rows(self):
        for value in NO_ROWS + odd_values():
            self.refuse(InvalidRows, value, ADDER, value, MESSAGE)

    def test_messages(self):
        for value in NO_MESSAGES + odd_values():
            self.refuse(InvalidMessage, value, ADDER, ROWS, value)

    def test_odd_values_in_rows(self):
        for value in odd_values():
            for rows in ((value,), ((("n", "k"), value),), (((value, "k"), 1),), ((("n", value), 1),)):
                self.refuse(InvalidRows, rows, ADDER, rows, MESSAGE)
            if value != ("fail", "fail"):
                rows = ((value, 1),)
                self.refuse(InvalidRows, rows, ADDER, rows, MESSAGE)

    def test_odd_values_in_messages(self):
        for value in odd_values():
            for message in ((value, "k", 3), ("add", value, 3), ("add", "k", value)):
                self.refuse(InvalidMessage, message, ADDER, ROWS, message)

    def test_also_if_nothing_of_them_is_needed(self):
        for handler in ((), (("fail",),)):
            self.refuse(InvalidRows, NO_ROWS[0], handler, NO_ROWS[0], MESSAGE)
            self.refuse(InvalidMessage, NO_MESSAGES[0], handler, ROWS, NO_MESSAGES[0])

    def test_what_is_just_right(self):
        words = ("a", "z", "abcdef", "zzzzzz")
        for word in words:
            for number in (-99, 99, 1, -1):
                rows = (((word, word), number),)
                self.assertEqual(run_handler((), rows, (word, word, number)), ("done", rows, ()))
        self.assertEqual(run_handler((), (), ("a", "z", 0)), ("done", (), ()))

    def test_rows_in_order(self):
        rows = ((("a", "b"), 1), (("a", "c"), 1), (("aa", "a"), 1), (("b", "a"), 1))
        self.assertEqual(run_handler((), rows, MESSAGE), ("done", rows, ()))


class TestSeveralWrongArguments(RefusalCase):
    def test_the_handler_first(self):
        for handler in NO_HANDLERS:
            for rows in NO_ROWS[:8]:
                self.refuse(InvalidHandler, handler, handler, rows, MESSAGE)
                self.refuse(InvalidHandler, handler, handler, rows, None)
            self.refuse(InvalidHandler, handler, handler, ROWS, [])

    def test_then_the_rows(self):
        for rows in NO_ROWS:
            for message in NO_MESSAGES[:8]:
                self.refuse(InvalidRows, rows, FULL, rows, message)

    def test_by_name_in_any_order(self):
        for given, due in ((([], {}, None), InvalidHandler), ((ADDER, {}, None), InvalidRows)):
            handler, rows, message = given
            with self.assertRaises(due):
                run_handler(message=message, rows=rows, handler=handler)


class TestNothingIsChanged(unittest.TestCase):
    def test_what_is_refused_stays(self):
        cases = [
            ([["set", "n", {"a": [1]}]], ROWS, MESSAGE),
            (ADDER, [[("n", "k"), [98]]], MESSAGE),
            (ADDER, ROWS, ["add", {"k": [3]}]),
        ]
        for given in cases:
            before = copy.deepcopy(given)
            with self.assertRaises(ValueError):
                run_handler(*given)
            self.assertEqual(given, before)


if __name__ == "__main__":
    unittest.main()
