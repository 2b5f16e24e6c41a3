"""The trees in handlers: expressions and conditions."""

from oncepost.forms import is_value, is_word

DEEPEST = 6


def is_expression(value, deep=DEEPEST):
    """Whether any value is an expression, at most so deep."""
    if deep == 0 or not isinstance(value, tuple) or len(value) == 0:
        return False
    head = value[0]
    if head == "value":
        return len(value) == 2 and is_value(value[1])
    if head == "body":
        return len(value) == 1
    if head == "row":
        return len(value) == 2 and is_word(value[1])
    if head in ("+", "-", "*"):
        return len(value) == 3 and is_expression(value[1], deep - 1) and is_expression(value[2], deep - 1)
    return False


def is_condition(value, deep=DEEPEST):
    """Whether any value is a condition, at most so deep without its expressions."""
    if deep == 0 or not isinstance(value, tuple) or len(value) == 0:
        return False
    head = value[0]
    if head in ("<", "="):
        return len(value) == 3 and is_expression(value[1]) and is_expression(value[2])
    if head == "not":
        return len(value) == 2 and is_condition(value[1], deep - 1)
    if head in ("and", "or"):
        return len(value) == 3 and is_condition(value[1], deep - 1) and is_condition(value[2], deep - 1)
    return False


def row_names(tree):
    """The names of rows in an expression or a condition, as often as they stand there."""
    if tree[0] == "row":
        return [tree[1]]
    names = []
    for part in tree[1:]:
        if isinstance(part, tuple):
            names.extend(row_names(part))
    return names
