"""What all schedules of a system lead to: the ends, what they need, their numbers, what is seen of them."""

from oncepost.errors import OtherWorld
from oncepost.forms import is_tree
from oncepost.graphs import Graph
from oncepost.spending import least_of, spent_in
from oncepost.states import CRASHES, log_of
from oncepost.tallies import classes_of, lengths_of


def graph_of(system):
    """All states of a system."""
    return Graph(system.plan, system.begin)


def face_of(state):
    """The state without what is left of the budgets."""
    logs, parts = state
    return (logs, tuple([own[:CRASHES] for own in parts]))


def ends(system):
    """The faces of all ends, ascending by repr, each with the least schedule that leads there."""
    graph = graph_of(system)
    found = {}
    for number in graph.last_numbers():
        face = face_of(graph.states[number])
        if face not in found:
            found[face] = number
    faces = sorted(found, key=lambda one: repr(one))
    return [(face, graph.steps_to(found[face])) for face in faces]


def needs(system, face):
    """The least budgets with which a face is that of an end, ascending; none for what is no face of an end."""
    graph = graph_of(system)
    if not is_tree(face):
        return []
    states = [graph.states[number] for number in graph.last_numbers()]
    return least_of([spent_in(system, state) for state in states if face_of(state) == face])


def count_states(system):
    """How many states schedules lead to."""
    return len(graph_of(system).states)


def by_length(system):
    """How many whole schedules have 0, 1, 2, .. steps, up to the longest."""
    return lengths_of(graph_of(system))


def count_classes(system):
    """How many whole schedules there are but for alikeness."""
    return classes_of(graph_of(system))


def seen(system, state):
    """What is seen of an end: for each kind of the world the keys and values of its log."""
    told = []
    for kind in system.world:
        entries, _ = log_of(system.plan, state, kind)
        told.append(tuple([(message[1], message[2]) for _, message in entries]))
    return tuple(told)


def sights(system, graph):
    """For all that is seen at ends the number of the first end where it is."""
    found = {}
    for number in graph.last_numbers():
        sight = seen(system, graph.states[number])
        if sight not in found:
            found[sight] = number
    return found


def alike(one, other):
    """None if the same is seen at the ends of two systems, otherwise what is at those of one of them alone.

    Then it tells which one, what is seen, and the least schedule to an end where it is.
    """
    if one.world != other.world:
        raise OtherWorld()
    graphs = [graph_of(one), graph_of(other)]
    told = [sights(one, graphs[0]), sights(other, graphs[1])]
    for which in (0, 1):
        own = [view for view in told[which] if view not in told[1 - which]]
        if len(own) > 0:
            least = min(own, key=lambda sight: repr(sight))
            return (which, least, graphs[which].steps_to(told[which][least]))
    return None
