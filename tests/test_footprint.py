"""The footprint of a handler [13]."""

import unittest

from oncepost.errors import InvalidHandler
from oncepost.handlers import footprint, is_handler
from tests.samples import ADDER, FULL, odd_values

BODY = ("body",)
NEVER = ("<", BODY, BODY)


class TestFootprint(unittest.TestCase):
    def test_document(self):
        handler = (("set", "n", ("+", ("row", "n"), ("body",))), ("send", "told", None, ("row", "n")))
        self.assertEqual(footprint(handler), (("n",), ("n",), ("told",)))
        self.assertEqual(repr(footprint(handler)), "(('n',), ('n',), ('told',))")

    def test_by_name(self):
        self.assertEqual(footprint(handler=ADDER), (("n",), ("n",), ("told",)))

    def test_nothing(self):
        self.assertEqual(footprint(()), ((), (), ()))
        self.assertEqual(footprint((("fail",),)), ((), (), ()))

    def test_all_forms(self):
        self.assertEqual(footprint(FULL), (("a", "b", "low", "n", "zzzzzz"), ("n",), ("other", "told")))

    def test_ascending_and_once(self):
        deeds = (
            ("set", "c", ("+", ("row", "z"), ("*", ("row", "b"), ("row", "z")))),
            ("set", "ab", ("row", "aa")),
            ("set", "c", ("row", "b")),
            ("set", "a", ("row", "a")),
            ("send", "y", None, BODY),
            ("send", "x", None, BODY),
            ("send", "xy", "k", BODY),
            ("send", "y", "j", BODY),
        )
        self.assertEqual(footprint(deeds), (("a", "aa", "b", "z"), ("a", "ab", "c"), ("x", "xy", "y")))

    def test_reads_of_each_place(self):
        for tree in (("row", "n"), ("+", ("row", "n"), BODY), ("-", BODY, ("*", BODY, ("row", "n")))):
            self.assertEqual(footprint((("set", "m", tree),)), (("n",), ("m",), ()))
            self.assertEqual(footprint((("send", "told", "key", tree),)), (("n",), (), ("told",)))
            for condition in (("<", tree, BODY), ("=", BODY, tree)):
                self.assertEqual(footprint((("if", condition, (), ()),)), (("n",), (), ()))

    def test_reads_of_nested_conditions(self):
        less, equal = ("<", ("row", "a"), ("row", "b")), ("=", ("row", "c"), ("row", "d"))
        condition = ("or", ("not", ("and", less, NEVER)), ("and", NEVER, ("not", equal)))
        self.assertEqual(footprint((("if", condition, (), ()),)), (("a", "b", "c", "d"), (), ()))

    def test_names_of_reads_and_sets_are_apart(self):
        self.assertEqual(footprint((("set", "a", BODY),)), ((), ("a",), ()))
        self.assertEqual(footprint((("send", "a", "b", BODY),)), ((), (), ("a",)))
        self.assertEqual(footprint((("set", "a", ("row", "b")),)), (("b",), ("a",), ()))

    def test_both_sides_of_an_if(self):
        deeds = (("if", NEVER, (("set", "a", ("row", "b")),), (("send", "c", "d", ("row", "e")),)), ("set", "f", BODY))
        self.assertEqual(footprint(deeds), (("b", "e"), ("a", "f"), ("c",)))

    def test_deeds_that_can_not_be_come_to(self):
        inner = ("if", NEVER, (("set", "a", ("row", "b")),), (("send", "c", None, ("row", "d")),))
        deeds = (("if", NEVER, (("if", NEVER, (inner,), ()),), ()), ("fail",), ("set", "e", ("row", "f")))
        self.assertEqual(footprint(deeds), (("b", "d", "f"), ("a", "e"), ("c",)))

    def test_kinds_of_values(self):
        result = footprint(FULL)
        self.assertEqual([part.__class__ for part in (result, *result)], [tuple] * 4)

    def test_the_same_again(self):
        self.assertEqual(footprint(FULL), footprint(FULL))

    def test_any_other_value_is_refused(self):
        others = [None, 0, "", "fail", [], {}, list(ADDER), (list(ADDER[0]),), ("fail",), (("fail",),) * 13]
        for value in others + odd_values():
            with self.subTest(value=value):
                self.assertIs(is_handler(value), False)
                with self.assertRaises(InvalidHandler) as caught:
                    footprint(value)
                self.assertIs(caught.exception.value, value)


if __name__ == "__main__":
    unittest.main()
