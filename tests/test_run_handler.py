"""Runs of handlers [10] [11] [12]."""

import copy
import unittest

from oncepost.handlers import run_handler
from tests.samples import ADDER, FULL, MESSAGE, ROWS, nested

BODY = ("body",)
YES = ("=", BODY, BODY)
NO = ("<", BODY, BODY)
SOME_VALUES = (-99, -98, -51, -50, -10, -9, -2, -1, 0, 1, 2, 9, 10, 11, 49, 50, 98, 99)


def value(number):
    return ("value", number)


def sent(worth, key="k"):
    """The end of a run that does nothing but send this."""
    return ("done", (), (("told", key, worth),))


def worth_of(expression, rows=(), body=0):
    """What a run sends of the expression."""
    end = run_handler((("send", "told", None, expression),), rows, ("add", "k", body))
    return end[2][0][2]


def holds(condition, rows=(), body=0):
    """Whether a run goes into the first deeds of an if."""
    deeds = (("if", condition, (("set", "yes", value(1)),), (("set", "no", value(1)),)),)
    end = run_handler(deeds, (), ("add", "k", body))
    return {((("yes", "k"), 1),): True, ((("no", "k"), 1),): False}[end[1]]


class TestDocument(unittest.TestCase):
    def test_adder(self):
        handler = (("set", "n", ("+", ("row", "n"), ("body",))), ("send", "told", None, ("row", "n")))
        end = run_handler(handler, ((("n", "k"), 98),), ("add", "k", 3))
        self.assertEqual(end, ("done", ((("n", "k"), 99),), (("told", "k", 99),)))
        self.assertEqual(repr(end), "('done', ((('n', 'k'), 99),), (('told', 'k', 99),))")

    def test_fail(self):
        handler = (("if", ("<", ("body",), ("value", 0)), (("fail",),), ()),)
        end = run_handler(handler, (), ("add", "k", -1))
        self.assertEqual(end, ("failed",))
        self.assertEqual(repr(end), "('failed',)")


class TestExpressions(unittest.TestCase):
    def test_leaves(self):
        rows = ((("a", "k"), 7), (("n", "j"), 8))
        self.assertEqual(worth_of(value(-99)), -99)
        self.assertEqual(worth_of(value(99)), 99)
        self.assertEqual(worth_of(BODY, body=-42), -42)
        self.assertEqual(worth_of(("row", "a"), rows), 7)
        self.assertEqual(worth_of(("row", "n"), rows), 0)
        self.assertEqual(worth_of(("row", "k"), rows), 0)

    def test_results_are_held_within_the_bounds(self):
        for one in SOME_VALUES:
            for other in SOME_VALUES:
                for sign, exact in (("+", one + other), ("-", one - other), ("*", one * other)):
                    bounded = 99 if exact > 99 else -99 if exact < -99 else exact
                    with self.subTest(one=one, sign=sign, other=other):
                        self.assertEqual(worth_of((sign, value(one), value(other))), bounded)

    def test_at_the_bounds(self):
        self.assertEqual(worth_of(("+", value(98), value(1))), 99)
        self.assertEqual(worth_of(("+", value(99), value(1))), 99)
        self.assertEqual(worth_of(("-", value(-98), value(1))), -99)
        self.assertEqual(worth_of(("-", value(-99), value(1))), -99)
        self.assertEqual(worth_of(("-", value(-99), value(-99))), 0)
        self.assertEqual(worth_of(("*", value(-99), value(-99))), 99)
        self.assertEqual(worth_of(("*", value(99), value(-99))), -99)
        self.assertEqual(worth_of(("*", value(33), value(3))), 99)
        self.assertEqual(worth_of(("*", value(50), value(2))), 99)
        self.assertEqual(worth_of(("*", value(-50), value(2))), -99)

    def test_each_result_is_held_not_only_the_last(self):
        self.assertEqual(worth_of(("-", ("+", value(99), value(99)), value(99))), 0)
        self.assertEqual(worth_of(("+", ("-", value(-99), value(5)), value(99))), 0)
        self.assertEqual(worth_of(("-", ("*", value(10), value(10)), value(99))), 0)
        self.assertEqual(worth_of(("-", value(99), ("*", value(10), value(10)))), 0)
        self.assertEqual(worth_of(("+", ("*", value(-10), value(10)), value(99))), 0)
        self.assertEqual(worth_of(("*", ("+", value(60), value(60)), value(0))), 0)
        self.assertEqual(worth_of(("*", ("*", value(50), value(2)), value(-1))), -99)

    def test_order_of_the_two_sides(self):
        self.assertEqual(worth_of(("-", value(5), value(3))), 2)
        self.assertEqual(worth_of(("-", value(3), value(5))), -2)
        self.assertEqual(worth_of(("-", ("-", value(9), value(5)), ("-", value(3), value(7)))), 8)

    def test_six_deep(self):
        doubled = nested(lambda inner: ("+", inner, inner), 5, value(3))
        self.assertEqual(worth_of(doubled), 96)
        self.assertEqual(worth_of(nested(lambda inner: ("+", inner, inner), 5, value(4))), 99)

    def test_a_set_value_is_held_too(self):
        end = run_handler((("set", "n", ("*", BODY, BODY)),), (), ("add", "k", 10))
        self.assertEqual(end, ("done", ((("n", "k"), 99),), ()))


class TestConditions(unittest.TestCase):
    def test_less(self):
        self.assertEqual([holds(("<", value(1), value(other))) for other in (0, 1, 2)], [False, False, True])
        self.assertTrue(holds(("<", value(-99), value(99))))

    def test_equal(self):
        self.assertEqual([holds(("=", value(1), value(other))) for other in (-1, 0, 1, 2)], [False, False, True, False])

    def test_of_bounded_results(self):
        self.assertTrue(holds(("=", ("+", value(99), value(1)), ("*", value(99), value(2)))))
        self.assertFalse(holds(("<", value(99), ("+", value(99), value(99)))))

    def test_not(self):
        self.assertEqual([holds(("not", YES)), holds(("not", NO)), holds(("not", ("not", YES)))], [False, True, True])

    def test_and(self):
        self.assertEqual(
            [holds(("and", one, other)) for one in (YES, NO) for other in (YES, NO)], [True, False, False, False]
        )

    def test_or(self):
        self.assertEqual(
            [holds(("or", one, other)) for one in (YES, NO) for other in (YES, NO)], [True, True, True, False]
        )

    def test_nested(self):
        self.assertTrue(holds(("and", ("or", NO, YES), ("not", ("and", YES, NO)))))
        self.assertFalse(holds(("or", ("not", ("or", NO, YES)), ("and", YES, NO))))

    def test_of_the_body(self):
        small = ("and", ("<", value(-3), BODY), ("<", BODY, value(3)))
        self.assertEqual([holds(small, body=body) for body in (-3, -2, 2, 3)], [False, True, True, False])

    def test_six_deep(self):
        self.assertFalse(holds(nested(lambda inner: ("not", inner), 5, YES)))
        self.assertTrue(holds(nested(lambda inner: ("and", inner, YES), 5, YES)))


class TestDeeds(unittest.TestCase):
    def test_no_deeds(self):
        self.assertEqual(run_handler((), (), MESSAGE), ("done", (), ()))
        self.assertEqual(run_handler((), ROWS, MESSAGE), ("done", ROWS, ()))

    def test_by_name(self):
        end = run_handler(message=MESSAGE, rows=ROWS, handler=ADDER)
        self.assertEqual(end, run_handler(ADDER, ROWS, MESSAGE))

    def test_a_set_is_of_the_key_of_the_message(self):
        end = run_handler((("set", "n", value(5)),), ((("n", "j"), 1), (("n", "l"), 2)), MESSAGE)
        self.assertEqual(end, ("done", ((("n", "j"), 1), (("n", "k"), 5), (("n", "l"), 2)), ()))

    def test_other_keys_and_names_stay(self):
        rows = ((("a", "k"), 1), (("n", "j"), -99), (("n", "k"), 98), (("z", "k"), 99))
        end = run_handler((("set", "n", value(-1)),), rows, MESSAGE)
        self.assertEqual(end[1], ((("a", "k"), 1), (("n", "j"), -99), (("n", "k"), -1), (("z", "k"), 99)))

    def test_a_row_that_becomes_0_is_left_out(self):
        self.assertEqual(run_handler((("set", "n", value(0)),), ROWS, MESSAGE)[1], ROWS[:2])
        self.assertEqual(run_handler((("set", "n", ("-", ("row", "n"), ("row", "n"))),), ROWS, MESSAGE)[1], ROWS[:2])
        self.assertEqual(run_handler((("set", "new", value(0)),), ROWS, MESSAGE)[1], ROWS)
        self.assertEqual(run_handler((("set", "n", value(0)),), ((("n", "k"), 1),), MESSAGE)[1], ())

    def test_a_row_that_is_0_for_a_while(self):
        end = run_handler((("set", "n", value(0)), ("set", "n", ("+", ("row", "n"), value(4)))), ROWS, MESSAGE)
        self.assertEqual(end[1], (*ROWS[:2], (("n", "k"), 4)))
        end = run_handler((("set", "new", value(4)), ("set", "new", value(0))), ROWS, MESSAGE)
        self.assertEqual(end[1], ROWS)

    def test_rows_are_ascending(self):
        deeds = tuple(("set", name, value(1)) for name in ("z", "b", "ab", "a", "aa", "zz"))
        names = [name for (name, _), _ in run_handler(deeds, ((("aa", "z"), 3),), MESSAGE)[1]]
        self.assertEqual(names, ["a", "aa", "aa", "ab", "b", "z", "zz"])
        end = run_handler((("set", "n", value(1)),), ((("m", "z"), 1), (("n", "a"), 1), (("n", "z"), 1)), MESSAGE)
        self.assertEqual([place for place, _ in end[1]], [("m", "z"), ("n", "a"), ("n", "k"), ("n", "z")])

    def test_a_row_is_read_as_it_is_then(self):
        deeds = (
            ("send", "told", None, ("row", "n")),
            ("set", "n", ("+", ("row", "n"), value(1))),
            ("send", "told", None, ("row", "n")),
            ("set", "m", ("*", ("row", "n"), value(2))),
            ("set", "n", ("row", "m")),
            ("send", "told", None, ("row", "n")),
        )
        end = run_handler(deeds, ((("n", "k"), 5),), MESSAGE)
        self.assertEqual(end[1], ((("m", "k"), 12), (("n", "k"), 12)))
        self.assertEqual([message[2] for message in end[2]], [5, 6, 12])

    def test_a_condition_sees_earlier_sets(self):
        deeds = (
            ("set", "n", value(1)),
            ("if", ("=", ("row", "n"), value(1)), (("set", "n", value(2)),), (("set", "n", value(3)),)),
            ("if", ("=", ("row", "n"), value(2)), (("send", "told", None, value(1)),), ()),
        )
        self.assertEqual(run_handler(deeds, (), MESSAGE), ("done", ((("n", "k"), 2),), (("told", "k", 1),)))

    def test_keys_of_sends(self):
        deeds = (("send", "told", None, BODY), ("send", "told", "other", BODY), ("send", "again", "k", value(-99)))
        end = run_handler(deeds, (), MESSAGE)
        self.assertEqual(end[2], (("told", "k", 3), ("told", "other", 3), ("again", "k", -99)))

    def test_a_send_with_a_key_reads_rows_of_the_message(self):
        rows = ((("n", "k"), 4), (("n", "other"), 9))
        self.assertEqual(run_handler((("send", "told", "other", ("row", "n")),), rows, MESSAGE)[2], (("told", "other", 4),))

    def test_sends_are_in_order_also_equal_ones_and_zeros(self):
        deeds = tuple(("send", kind, None, value(0)) for kind in ("b", "a", "b", "b", "c"))
        self.assertEqual([message[0] for message in run_handler(deeds, (), MESSAGE)[2]], ["b", "a", "b", "b", "c"])

    def test_twelve_sends(self):
        end = run_handler((("send", "told", None, BODY),) * 12, (), MESSAGE)
        self.assertEqual(end[2], (("told", "k", 3),) * 12)

    def test_the_first_deeds_if_it_holds_and_the_second_if_not(self):
        deeds = (("if", ("<", BODY, value(0)), (("set", "a", value(1)),), (("set", "b", value(2)),)), ("set", "c", BODY))
        self.assertEqual(run_handler(deeds, (), ("add", "k", -1))[1], ((("a", "k"), 1), (("c", "k"), -1)))
        self.assertEqual(run_handler(deeds, (), ("add", "k", 1))[1], ((("b", "k"), 2), (("c", "k"), 1)))

    def test_ifs_within_ifs(self):
        inner = ("if", ("<", BODY, value(5)), (("send", "low", None, BODY),), (("send", "high", None, BODY),))
        deeds = (("if", ("<", value(0), BODY), (inner, ("set", "n", value(1))), (("fail",),)),)
        self.assertEqual(run_handler(deeds, (), ("add", "k", 4)), ("done", ((("n", "k"), 1),), (("low", "k", 4),)))
        self.assertEqual(run_handler(deeds, (), ("add", "k", 5)), ("done", ((("n", "k"), 1),), (("high", "k", 5),)))
        self.assertEqual(run_handler(deeds, (), ("add", "k", 0)), ("failed",))


class TestFails(unittest.TestCase):
    def test_after_sets_and_sends(self):
        self.assertEqual(run_handler((*ADDER, ("fail",)), ROWS, MESSAGE), ("failed",))
        self.assertEqual(run_handler((*ADDER, ("fail",), *ADDER), ROWS, MESSAGE), ("failed",))

    def test_first(self):
        self.assertEqual(run_handler((("fail",), *ADDER), ROWS, MESSAGE), ("failed",))

    def test_within_ifs_ends_all(self):
        deep = (("if", YES, (("if", NO, (), (("if", YES, (("fail",),), ()), *ADDER)), *ADDER), ()), *ADDER)
        self.assertEqual(run_handler(deep, ROWS, MESSAGE), ("failed",))

    def test_what_is_not_come_to_does_not_fail(self):
        deeds = (("if", YES, (), (("fail",),)), ("if", NO, (("fail",),), ()), *ADDER)
        self.assertEqual(run_handler(deeds, ROWS, MESSAGE), run_handler(ADDER, ROWS, MESSAGE))


class TestCalls(unittest.TestCase):
    def test_the_same_call_gives_the_same_again(self):
        for handler in ((), ADDER, FULL):
            for body in (-99, 0, 99):
                message = ("add", "k", body)
                self.assertEqual(run_handler(handler, ROWS, message), run_handler(handler, ROWS, message))

    def test_nothing_that_is_passed_is_changed(self):
        passed = (FULL, ROWS, MESSAGE)
        before = copy.deepcopy(passed)
        run_handler(*passed)
        self.assertEqual(repr(passed), repr(before))

    def test_a_run_does_not_see_another(self):
        first = run_handler(ADDER, ROWS, MESSAGE)
        run_handler((("set", "n", value(1)), ("set", "a", value(0))), ROWS, MESSAGE)
        self.assertEqual(run_handler(ADDER, ROWS, MESSAGE), first)
        self.assertEqual(run_handler(ADDER, (), MESSAGE), ("done", ((("n", "k"), 3),), (("told", "k", 3),)))

    def test_kinds_of_values(self):
        end = run_handler((("set", "n", BODY), ("send", "told", None, BODY)), ROWS, MESSAGE)
        self.assertEqual([part.__class__ for part in end], [str, tuple, tuple])
        for (name, key), held in end[1]:
            self.assertEqual((name.__class__, key.__class__, held.__class__), (str, str, int))
        self.assertEqual(end[2][0].__class__, tuple)


if __name__ == "__main__":
    unittest.main()
