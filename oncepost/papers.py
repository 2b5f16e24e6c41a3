"""Papers: lists that small looks accept, and that then have exactly all ends."""

from oncepost.barring import bars_of
from oncepost.choices import chosen_at
from oncepost.errors import NoWord
from oncepost.forms import is_tree, is_tuple_of
from oncepost.graphs import Graph
from oncepost.moves import is_possible, state_after


def full_paper(system):
    """All states of a system, each behind one that a step leads from to it."""
    return list(Graph(system.plan, system.begin).states)


def short_paper(system):
    """States that have all ends among them, each with its steps and their bars."""
    # The bound is that of all states, however short the paper is.
    Graph(system.plan, system.begin)
    return paper_of(system)


def paper_of(system):
    """A short paper of a system, which has not too many states."""
    plan = system.plan
    states = [system.begin]
    told = {system.begin: True}
    found = []
    while len(found) < len(states):
        state = states[len(found)]
        steps, lines = chosen_at(plan, state)
        found.append((state, steps, lines))
        for step in steps:
            if is_possible(plan, state, step):
                after = state_after(plan, state, step)
                if after not in told:
                    told[after] = True
                    states.append(after)
    return found


def is_full(system, value):
    """Whether any value is a full paper of a system."""
    if not isinstance(value, list):
        return False
    # What steps lead to from the states that were told, and the beginning.
    due = {system.begin: True}
    told = {}
    for state in value:
        if not is_due(due, told, state):
            return False
        told[state] = True
        for step in system.possible(state):
            due[system.after(state, step)] = True
    return len(told) == len(due)


def is_due(due, told, value):
    """Whether any value is a state that steps lead to and that was not yet told."""
    return is_tree(value) and value in due and value not in told


def is_short(system, value):
    """Whether any value is a short paper of a system."""
    if not isinstance(value, list):
        return False
    due = {system.begin: True}
    told = {}
    for entry in value:
        if not is_tuple_of(entry, 3) or not is_due(due, told, entry[0]):
            return False
        if not are_steps(system.plan, entry[1]) or not is_tuple_of(entry[2], len(entry[1])):
            return False
        state, steps, lines = entry
        possible = system.possible(state)
        if not is_enough(system.plan, state, possible, steps) or not are_bars(system.plan, state, steps, lines):
            return False
        told[state] = True
        for step in steps:
            if step in possible:
                due[system.after(state, step)] = True
    return len(told) == len(due)


def are_steps(plan, value):
    """Whether any value is a tuple of steps of the system, ascending."""
    if not isinstance(value, tuple) or not all([plan.has_step(step) for step in value]):
        return False
    ranks = [plan.ranks[step] for step in value]
    return all([one < other for one, other in zip(ranks, ranks[1:])])


def mask_of(plan, steps):
    """The mask of these steps, each there once."""
    return sum([1 << plan.ranks[step] for step in steps])


def is_enough(plan, state, possible, steps):
    """Whether a possible step is among these if any is, and with each possible one all that are not apart from it."""
    mask = mask_of(plan, steps)
    done = [plan.ranks[step] for step in steps if step in possible]
    if len(possible) > 0 and len(done) == 0:
        return False
    return all([plan.near_masks[rank] & ~mask == 0 for rank in done])


def are_bars(plan, state, steps, lines):
    """Whether each possible step has None, and each other one a line that bars it, whose steps are among these."""
    mask = mask_of(plan, steps)
    for step, line in zip(steps, lines):
        barring = bars_of(plan, state, step)
        if len(barring) == 0:
            if line is not None:
                return False
        elif not any([line == barred and asked & ~mask == 0 for barred, asked in barring]):
            return False
    return True


def bars(system, state, step):
    """The lines that bar a step in a state, each with the steps that it asks for, () if it is spent."""
    if not system.plan.has_step(step):
        raise NoWord(step)
    return [(line, system.plan.steps_in(asked)) for line, asked in bars_of(system.plan, state, step)]
