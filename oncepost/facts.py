"""The facts of a schedule, and which of them each fact needs."""

from oncepost.errors import NoFact
from oncepost.forms import is_number


def facts(schedule):
    """All facts of a schedule, ascending."""
    return sorted(schedule.needs)


def needs_of(schedule, fact):
    """The facts that a fact needs, ascending."""
    if not is_fact(schedule, fact):
        raise NoFact(fact)
    return list(schedule.needs[fact])


def why(schedule, fact):
    """A fact, the facts that it needs, that these need, and so on, ascending."""
    if not is_fact(schedule, fact):
        raise NoFact(fact)
    found = {fact: True}
    waiting = [fact]
    while len(waiting) > 0:
        one = waiting.pop()
        for need in schedule.needs[one]:
            if need not in found:
                found[need] = True
                waiting.append(need)
    return sorted(found)


def is_why(schedule, value):
    """Whether any value is a list of facts of the schedule in which each one's needs are."""
    if not isinstance(value, list) or not all([is_fact(schedule, fact) for fact in value]):
        return False
    told = {fact: True for fact in value}
    return all([need in told for fact in told for need in schedule.needs[fact]])


def is_fact(schedule, value):
    """Whether any value is a fact of the schedule."""
    # The form is asked first: True is no 1, and what holds a list may not be a key of a dict.
    if not isinstance(value, tuple) or not all([isinstance(part, str) or is_number(part) for part in value]):
        return False
    return value in schedule.needs
