"""Side by side: the numbers of systems that share nothing, as one, and the parts of a system that share nothing."""

from math import comb

from oncepost.errors import InvalidCount
from oncepost.searches import by_length, count_classes, count_states, ends
from oncepost.systems import System

MOST_SYSTEMS = 8


class Beside:
    """Systems side by side: a whole schedule of them is a mixture of whole schedules of each."""

    def __init__(self, *systems):
        if not 1 <= len(systems) <= MOST_SYSTEMS:
            raise InvalidCount(len(systems))
        self.systems = systems

    def state_count(self):
        """How many states schedules lead to."""
        return multiplied([count_states(system) for system in self.systems])

    def end_count(self):
        """How many faces ends have."""
        return multiplied([len(ends(system)) for system in self.systems])

    def lengths(self):
        """How many whole schedules have 0, 1, 2, .. steps, up to the longest."""
        found = (1,)
        for system in self.systems:
            found = mixed(found, by_length(system))
        return found

    def class_count(self):
        """How many whole schedules there are but for alikeness."""
        return multiplied([count_classes(system) for system in self.systems])


def multiplied(numbers):
    """The product of numbers."""
    found = 1
    for number in numbers:
        found = found * number
    return found


def mixed(one, other):
    """How many mixtures of 0, 1, 2, .. steps there are of schedules whose numbers by length are told."""
    found = [0 for _ in range(len(one) + len(other) - 1)]
    for length, many in enumerate(one):
        for more, others in enumerate(other):
            # The places of the steps of the one among all steps.
            found[length + more] += comb(length + more, more) * many * others
    return tuple(found)


def parts(system):
    """The systems of the kinds and services that hang together, those with services, by their first services."""
    found = []
    for service in system.services:
        kinds = [*service.kinds, *system.plan.sent_kinds[service.name]]
        found = joined(found, [service.name], kinds)
    return [part_with(system, names, kinds) for names, kinds in sorted(found)]


def joined(groups, names, kinds):
    """The groups with one more, which is made one with those that have kinds in common with it."""
    others = []
    for group in groups:
        if any([kind in kinds for kind in group[1]]):
            names = [*group[0], *names]
            kinds = [*group[1], *kinds]
        else:
            others.append(group)
    return [*others, (sorted(names), kinds)]


def part_with(system, names, kinds):
    """The system of these services and kinds, as they are in a system, and the commands of the kinds."""
    return System(
        [kind for kind in system.kinds if kind in kinds],
        [service for service in system.services if service.name in names],
        [command for command in system.commands if command[0] in kinds],
    )
