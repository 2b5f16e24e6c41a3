"""The form of handlers [11] [12]: is_handler, at its limits and beyond."""

import unittest

from oncepost.handlers import is_handler
from tests.samples import ADDER, FULL, nested, odd_values, part_at, paths, replaced

BODY = ("body",)
EQUAL = ("=", BODY, BODY)
FAIL = ("fail",)
WORDS = ["a", "z", "abc", "mno", "abcdef", "zzzzzz"]
NO_WORDS = ["", "abcdefg", "A", "aB", "Z", "a1", "1", "a b", " ", "a_b", "-", "`", "{", "a\n", "\n", "\u00e9", "\uff41"]
# Beside odd_values: what stands somewhere in a handler, but not as a word.
NO_WORDS_AT_ALL = [*NO_WORDS, None, 0, 1, (), ("a",), ("body",), ["a"], {"a": "a"}]


def setting(expression):
    return (("set", "n", expression),)


def deciding(condition):
    return (("if", condition, (), ()),)


def expression_of_depth(depth, sign="+", left=True):
    if left:
        return nested(lambda inner: (sign, inner, ("value", 1)), depth - 1, BODY)
    return nested(lambda inner: (sign, ("row", "n"), inner), depth - 1, BODY)


def conditions_of_depth(depth):
    makers = [
        lambda inner: ("not", inner),
        lambda inner: ("and", inner, EQUAL),
        lambda inner: ("and", EQUAL, inner),
        lambda inner: ("or", inner, EQUAL),
        lambda inner: ("or", EQUAL, inner),
    ]
    return [nested(make, depth - 1, leaf) for make in makers for leaf in (EQUAL, ("<", BODY, BODY))]


def ifs_within(others, deeds, first):
    """An if with these deeds, within so many others, always in the first or the second deeds."""
    made = (("if", EQUAL, deeds, ()),)
    if first:
        return nested(lambda inner: (("if", EQUAL, inner, ()),), others, made)
    return nested(lambda inner: (("if", EQUAL, (), inner),), others, made)


class IsHandlerCase(unittest.TestCase):
    def accept(self, *values):
        for value in values:
            with self.subTest(value=value):
                self.assertIs(is_handler(value), True)

    def refuse(self, *values):
        for value in values:
            with self.subTest(value=value):
                self.assertIs(is_handler(value), False)


class TestForms(IsHandlerCase):
    def test_ordinary_handlers(self):
        self.accept((), ADDER, FULL, (FAIL,), setting(BODY), deciding(EQUAL))

    def test_by_name(self):
        self.assertIs(is_handler(value=ADDER), True)
        self.assertIs(is_handler(value=None), False)

    def test_a_send_of_none_or_a_word(self):
        self.accept((("send", "told", None, BODY),), (("send", "told", "k", BODY),))

    def test_what_it_sends_is_not_looked_at(self):
        self.accept((("send", "told", None, BODY),) * 12)

    def test_expressions(self):
        for leaf in (("value", 0), BODY, ("row", "n")):
            self.accept(setting(leaf), *[setting((sign, leaf, leaf)) for sign in "+-*"])
        self.refuse(*[setting((sign, BODY, BODY)) for sign in ("/", "//", "**", "", "<", "=", "and", "or", "++")])

    def test_conditions(self):
        self.accept(*[deciding(condition) for depth in (1, 2) for condition in conditions_of_depth(depth)])
        self.refuse(*[deciding((sign, BODY, BODY)) for sign in (">", "<=", "==", "!=", "", "+", "and", "or", "not")])
        self.refuse(*[deciding((sign, EQUAL, EQUAL)) for sign in ("xor", "", "<", "=", "+", "not")])

    def test_expressions_are_no_conditions_and_conditions_no_expressions(self):
        self.refuse(*[deciding(tree) for tree in (BODY, ("value", 1), ("row", "n"), ("+", BODY, BODY))])
        self.refuse(*[setting(tree) for tree in (EQUAL, ("not", EQUAL), ("and", EQUAL, EQUAL))])
        self.refuse(deciding(("not", BODY)), deciding(("and", EQUAL, BODY)), deciding(("or", BODY, EQUAL)))
        self.refuse(deciding(("=", EQUAL, BODY)), deciding(("<", BODY, EQUAL)), setting(("+", EQUAL, BODY)))

    def test_deeds_are_no_trees_and_trees_no_deeds(self):
        self.refuse(setting(FAIL), deciding(FAIL), (BODY,), (EQUAL,), (("value", 1),), (("row", "n"),))
        self.refuse((("+", BODY, BODY),), (("not", EQUAL),), (("set", "n", ("set", "n", BODY)),))

    def test_a_deed_is_no_handler(self):
        self.refuse(FAIL, ("set", "n", BODY), ("send", "told", None, BODY), ("if", EQUAL, (), ()), ((FAIL,),))

    def test_deeds_of_an_if_are_tuples_of_deeds(self):
        for deeds in (FAIL, None, "", "fail", 0, [], [FAIL], {}, {FAIL: FAIL}, (None,), ((FAIL,),), (BODY,)):
            self.refuse((("if", EQUAL, deeds, ()),), (("if", EQUAL, (), deeds),))

    def test_other_heads(self):
        for head in ("sets", "SET", "", "fail", "body", "row", "value", None, 0, True, (), ("set",), ["set"], {}):
            self.refuse(((head, "n", BODY),), setting((head, BODY, BODY)), deciding((head, EQUAL, EQUAL)))
            self.refuse(((head, "told", None, BODY),), ((head, EQUAL, (), ()),), deciding((head, BODY, BODY)))

    def test_wrong_lengths(self):
        for path in paths(FULL):
            part = part_at(FULL, path)
            if isinstance(part, tuple) and part != () and isinstance(part[0], str):
                self.refuse(replaced(FULL, path, part[:-1]), replaced(FULL, path, (*part, part[-1])))
                self.refuse(replaced(FULL, path, (*part, None)), replaced(FULL, path, (*part, BODY)))
                self.refuse(replaced(FULL, path, part[:1] + part))

    def test_empty_tuples_where_trees_or_deeds_stand(self):
        self.refuse(((),), setting(()), deciding(()), setting(("+", (), BODY)), deciding(("not", ())))


class TestLimits(IsHandlerCase):
    def test_expressions_six_and_seven_deep(self):
        for sign in "+-*":
            for left in (True, False):
                six, seven = [expression_of_depth(depth, sign, left) for depth in (6, 7)]
                self.accept(setting(six), (("send", "told", None, six),))
                self.accept(deciding(("<", six, BODY)), deciding(("=", BODY, six)))
                self.refuse(setting(seven), (("send", "told", None, seven),))
                self.refuse(deciding(("<", seven, BODY)), deciding(("=", BODY, seven)))

    def test_leaves_six_and_seven_deep(self):
        for leaf in (("value", 5), ("row", "n")):
            six = nested(lambda inner: ("*", inner, inner), 5, leaf)
            self.accept(setting(six))
            self.refuse(setting(("-", six, BODY)), setting(("-", BODY, six)))

    def test_conditions_six_and_seven_deep(self):
        self.accept(*[deciding(condition) for condition in conditions_of_depth(6)])
        self.refuse(*[deciding(condition) for condition in conditions_of_depth(7)])

    def test_conditions_are_counted_without_their_expressions(self):
        six, seven = [expression_of_depth(depth) for depth in (6, 7)]
        self.accept(deciding(nested(lambda inner: ("not", inner), 5, ("<", six, six))))
        self.refuse(deciding(nested(lambda inner: ("not", inner), 5, ("<", six, seven))))
        self.refuse(deciding(nested(lambda inner: ("not", inner), 6, ("<", BODY, BODY))))

    def test_twelve_and_thirteen_deeds(self):
        for deed in (FAIL, ("set", "n", BODY), ("send", "told", None, BODY), ("if", EQUAL, (), ())):
            self.accept((deed,) * 11, (deed,) * 12)
            self.refuse((deed,) * 13, (deed,) * 14, (deed,) * 50)

    def test_those_in_ifs_are_counted(self):
        eleven, twelve = (FAIL,) * 11, (FAIL,) * 12
        self.accept((("if", EQUAL, eleven, ()),), (("if", EQUAL, (), eleven),))
        self.refuse((("if", EQUAL, twelve, ()),), (("if", EQUAL, (), twelve),))
        self.accept((("if", EQUAL, (FAIL,) * 5, (FAIL,) * 6),))
        self.refuse((("if", EQUAL, (FAIL,) * 6, (FAIL,) * 6),))
        self.accept((("if", EQUAL, (FAIL,) * 5, (FAIL,) * 5), FAIL), (FAIL, ("if", EQUAL, (FAIL,) * 5, (FAIL,) * 5)))
        self.refuse((("if", EQUAL, (FAIL,) * 5, (FAIL,) * 5), FAIL, FAIL))
        self.refuse((FAIL, FAIL, ("if", EQUAL, (FAIL,) * 5, (FAIL,) * 5)))
        self.refuse((("if", EQUAL, (FAIL,) * 5, ()), ("if", EQUAL, (), (FAIL,) * 6)))

    def test_deeds_in_inner_ifs_are_counted(self):
        for first in (True, False):
            self.accept(ifs_within(2, (FAIL,) * 9, first), (*ifs_within(2, (FAIL,) * 8, first), FAIL))
            self.refuse(ifs_within(2, (FAIL,) * 10, first), (*ifs_within(2, (FAIL,) * 9, first), FAIL))

    def test_an_if_within_two_and_within_three_others(self):
        for first in (True, False):
            self.accept(*[ifs_within(others, (FAIL,), first) for others in (0, 1, 2)])
            self.refuse(*[ifs_within(others, (FAIL,), first) for others in (3, 4, 6)])
            self.refuse(ifs_within(3, (), first), ((FAIL,) + ifs_within(3, (), first)))
        mixed = (("if", EQUAL, (), (("if", EQUAL, (("if", EQUAL, (), (FAIL,)),), ()),)),)
        self.accept(mixed)
        self.refuse((("if", EQUAL, mixed, ()),), (("if", EQUAL, (), mixed),))

    def test_ifs_side_by_side_are_not_within_each_other(self):
        self.accept(ifs_within(2, (), True) * 4, ifs_within(2, (), False) * 4)
        self.accept((("if", EQUAL, ifs_within(1, (FAIL,), True), ifs_within(1, (FAIL,), False)),))


class TestWordsAndNumbers(IsHandlerCase):
    def places_of_words(self, word):
        yield (("set", word, BODY),)
        yield (("send", word, None, BODY),)
        yield (("send", word, "k", BODY),)
        yield (("send", "told", word, BODY),)
        yield setting(("row", word))
        yield setting(("+", BODY, ("row", word)))
        yield (("send", "told", None, ("row", word)),)
        yield deciding(("<", BODY, ("row", word)))

    def test_words(self):
        for word in WORDS:
            self.accept(*self.places_of_words(word))

    def test_no_words(self):
        for value in NO_WORDS_AT_ALL + odd_values():
            for handler in self.places_of_words(value):
                if handler != (("send", "told", None, BODY),):
                    self.refuse(handler)

    def test_each_letter(self):
        for letter in "abcdefghijklmnopqrstuvwxyz":
            self.accept(setting(("row", letter)), (("set", "a" + letter, BODY),))

    def test_numbers(self):
        for number in (-99, -98, -1, 0, 1, 98, 99):
            self.accept(setting(("value", number)), deciding(("=", BODY, ("value", number))))

    def test_no_numbers(self):
        for value in [-100, 100, 101, 10 ** 109, -(10 ** 109), True, False, None, "", "1", "a", (), (1,), [1], {1: 1}]:
            self.refuse(setting(("value", value)), deciding(("=", ("value", value), BODY)))


class TestAnyValue(IsHandlerCase):
    def test_other_wholes(self):
        self.refuse(None, 0, 1, "", "fail", "body", "set", [], {}, [FAIL], {FAIL: FAIL}, "a" * 12)
        self.refuse((None,), (0,), ("fail",), ("body",), ((),), ([],), ({},))
        self.refuse(*odd_values())

    def test_odd_values_in_every_place(self):
        for path in paths(FULL):
            for value in odd_values():
                if not (value == () or is_same(part_at(FULL, path), value)):
                    self.refuse(replaced(FULL, path, value))

    def test_none_where_no_key_stands(self):
        for path in paths(FULL):
            if part_at(FULL, path) is not None and path != (2, 2):
                self.refuse(replaced(FULL, path, None))

    def test_lists_where_tuples_stand(self):
        for path in paths(FULL):
            part = part_at(FULL, path)
            if isinstance(part, tuple):
                self.refuse(replaced(FULL, path, list(part)))

    def test_strings_and_dicts_where_tuples_stand(self):
        for path in paths(FULL):
            part = part_at(FULL, path)
            if isinstance(part, tuple):
                head = part[0] if part and isinstance(part[0], str) else "fail"
                self.refuse(replaced(FULL, path, head), replaced(FULL, path, {head: part}))

    def test_up_to_twenty_deep(self):
        for depth in range(8, 20):
            trees = [
                nested(lambda inner: ("+", inner, inner), depth, BODY),
                nested(lambda inner: ("not", inner), depth, EQUAL),
                nested(lambda inner: ("or", inner, inner), depth, EQUAL),
                nested(lambda inner: (inner,), depth, FAIL),
                nested(lambda inner: [inner], depth, FAIL),
            ]
            for tree in trees:
                self.refuse(tree, (tree,), setting(tree), deciding(tree), (("if", EQUAL, tree, ()),))

    def test_nothing_is_changed(self):
        inner = ["body", {"value": [1]}]
        handler = (("set", "n", inner),)
        self.assertIs(is_handler(handler), False)
        self.assertIs(handler[0][2], inner)
        self.assertEqual(inner, ["body", {"value": [1]}])

    def test_the_same_answer_again(self):
        for value in [ADDER, FULL, (), *odd_values()]:
            self.assertIs(is_handler(value), is_handler(value))


def is_same(one, other):
    return type(one) is type(other) and one == other


if __name__ == "__main__":
    unittest.main()
