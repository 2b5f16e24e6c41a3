"""Forgetting: which ids in inboxes may still be asked for, and what becomes of a state without them."""

from oncepost.comings import may_come
from oncepost.errors import NoThing
from oncepost.forms import is_tree
from oncepost.graphs import Graph
from oncepost.states import HAND, INBOX, OUTS, ROWS, log_of, with_part


def things(system, state):
    """All things of a state: (service, id) for each id in an inbox, ascending."""
    return [(service.name, ident) for service, own in zip(system.services, state[1]) for ident in own[INBOX]]


def check_things(system, state, values):
    """Raises an error for the first value that is no thing of a state, or that is there twice."""
    known = things(system, state)
    for at, value in enumerate(values):
        if not is_tree(value) or value not in known or value in values[:at]:
            raise NoThing(value)


def asked_by(system, state, step):
    """What a possible step asks for: a service and an id, None if it is no take."""
    if step[0] != "take":
        return None
    entries, position = log_of(system.plan, state, step[1])
    return (system.service_of(step[1]), entries[position][0])


def first_asking(system, state):
    """For all that steps from a state ask for the least steps, the last of which asks for it."""
    graph = Graph(system.plan, state)
    found = {}
    # The states come in the order of the least steps to them, and so do these steps with one more behind them.
    for number, exits in enumerate(graph.exits):
        for place, _ in exits:
            step = system.all_steps[place]
            asked = asked_by(system, graph.states[number], step)
            if asked is not None and asked not in found:
                found[asked] = (*graph.steps_to(number), step)
    return found


def alive(system, state, thing):
    """The least steps from a state, the last of which asks for a thing; None if there are none."""
    check_things(system, state, (thing,))
    return first_asking(system, state).get(thing)


def dead(system, state):
    """All things of a state that no steps ask for, ascending."""
    asked = first_asking(system, state)
    return [thing for thing in things(system, state) if thing not in asked]


def kept(system, state):
    """All things of a state whose messages may come again to their services, ascending."""
    return [(name, ident) for name, ident in things(system, state) if may_come(system.plan, state, name, ident)]


def forget(system, state, *things):
    """The state without these things."""
    check_things(system, state, things)
    logs, parts = state
    left = []
    for service, own in zip(system.services, parts):
        inbox = tuple([ident for ident in own[INBOX] if (service.name, ident) not in things])
        left.append(with_part(own, INBOX, inbox))
    return (logs, tuple(left))


def bare_face_of(state):
    """The state without inboxes, books and what is left of the budgets."""
    logs, parts = state
    return (logs, tuple([(own[ROWS], own[OUTS], own[HAND]) for own in parts]))


def first_faces(graph):
    """For the bare faces of all ends of a graph the number of the first end that has it."""
    found = {}
    for number in graph.last_numbers():
        face = bare_face_of(graph.states[number])
        if face not in found:
            found[face] = number
    return found


def may_forget(system, state, *things):
    """None if things don't matter to the ends that can be come to, otherwise an end that is there with or without them.

    Then it tells which, 0 with them and 1 without, its bare face, and the least steps to it.
    """
    graphs = [Graph(system.plan, one) for one in (state, forget(system, state, *things))]
    told = [first_faces(graph) for graph in graphs]
    for which in (0, 1):
        own = [face for face in told[which] if face not in told[1 - which]]
        if len(own) > 0:
            least = min(own, key=lambda bare: repr(bare))
            return (which, least, graphs[which].steps_to(told[which][least]))
    return None
