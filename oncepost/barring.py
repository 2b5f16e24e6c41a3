"""Bars: the lines that tell why a step is not possible, and which steps must be done before it may be."""

from oncepost.moves import entry_due, is_possible
from oncepost.states import CRASHES, HAND, LOSSES, log_of, part_of


def bars_of(plan, state, step):
    """The bars of a step of the system: (line, mask of the steps that it asks for), lines ascending.

    A bar that is spent asks for nothing. A step that is possible has none.
    """
    if is_possible(plan, state, step):
        return []
    head = step[0]
    if head == "take":
        return bars_of_take(plan, state, step[1])
    if head == "lose":
        return bars_of_lose(plan, state, step)
    if head == "crash":
        return bars_of_crash(plan, state, step)
    return [asking(plan, own_line(plan, step))]


def asking(plan, line):
    """The bar that asks for all steps with its line."""
    return (line, plan.line_masks[line])


def own_line(plan, step):
    """The line on which a service makes a step possible that is no take and no crash."""
    if step[0] == "answer":
        return ("hand", plan.owners[step[1]].name)
    if step[0] in ("relay", "mark", "lose") and plan.service_named(step[1]).way[0] == "outbox":
        return ("out", step[1], step[2])
    return ("hand", step[1])


def bars_of_take(plan, state, kind):
    """The bars of a take that is not possible."""
    name = plan.owners[kind].name
    entries, position = log_of(plan, state, kind)
    found = []
    if part_of(plan, state, name)[HAND] is not None:
        found.append(asking(plan, ("hand", name)))
    if len(entries) <= position:
        found.append(asking(plan, ("log", kind)))
    return found


def bars_of_lose(plan, state, step):
    """The bars of a lose that is not possible."""
    found = []
    if part_of(plan, state, step[1])[LOSSES] == 0:
        found.append((("loss", step[1]), 0))
    if entry_due(plan, state, step) is None:
        found.append(asking(plan, own_line(plan, step)))
    return sorted(found)


def bars_of_crash(plan, state, step):
    """The bar of a crash that is not possible."""
    spent = part_of(plan, state, step[1])[CRASHES] == 0
    return [(("hand", step[1]), 0 if spent else plan.near_masks[plan.ranks[step]])]
