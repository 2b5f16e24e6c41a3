"""Tests of states: their form, and whether they hold."""

from oncepost.forms import is_number, is_tuple_of, is_value, is_word
from oncepost.states import ROWS, log_of, part_of

DEEPEST = 6


def is_probe(plan, value, deep=DEEPEST):
    """Whether any value is a test of states of the system, at most so deep."""
    if deep == 0 or not isinstance(value, tuple) or len(value) == 0:
        return False
    head = value[0]
    if head == "row":
        return len(value) == 5 and is_row_probe(plan, value)
    if head == "log":
        return len(value) == 3 and is_log_probe(plan, value)
    if head == "not":
        return len(value) == 2 and is_probe(plan, value[1], deep - 1)
    if head in ("and", "or"):
        return is_tuple_of(value, 3) and all([is_probe(plan, part, deep - 1) for part in value[1:]])
    return False


def is_row_probe(plan, value):
    """Whether what stands behind "row" is a service, a name, a key and a value."""
    _, service, name, key, held = value
    return is_one_of(service, plan.service_places) and is_word(name) and is_word(key) and is_value(held)


def is_log_probe(plan, value):
    """Whether what stands behind "log" is a kind and a number of entries."""
    _, kind, many = value
    return is_one_of(kind, plan.kind_places) and is_number(many) and many >= 0


def is_one_of(value, places):
    """Whether any value is one of these words."""
    return is_word(value) and value in places


def is_met(plan, state, test):
    """Whether a test holds in a state."""
    head = test[0]
    if head == "row":
        _, service, name, key, held = test
        return row_of(part_of(plan, state, service), (name, key)) == held
    if head == "log":
        return len(log_of(plan, state, test[1])[0]) == test[2]
    if head == "not":
        return not is_met(plan, state, test[1])
    if head == "and":
        return is_met(plan, state, test[1]) and is_met(plan, state, test[2])
    return is_met(plan, state, test[1]) or is_met(plan, state, test[2])


def row_of(own, place):
    """The value of a row of a service, 0 if it is not there."""
    for other, held in own[ROWS]:
        if other == place:
            return held
    return 0
