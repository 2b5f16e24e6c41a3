"""What schedules spend of the budgets of a system."""

from oncepost.states import CRASHES, LOSSES


def spent_in(system, state):
    """What the schedules that lead to a state have spent: (crashes, losses) of each service."""
    return tuple([
        (service.crashes - own[CRASHES], service.losses - own[LOSSES])
        for service, own in zip(system.services, state[1])
    ])


def is_within(one, other):
    """Whether one is nowhere greater than the other."""
    return all([
        crashes <= more_crashes and losses <= more_losses
        for (crashes, losses), (more_crashes, more_losses) in zip(one, other)
    ])


def least_of(spends):
    """Those of a list that no other one is within, each once, ascending."""
    found = []
    # One that is within another is below it, so it comes first.
    for one in sorted(set(spends)):
        if not any([is_within(least, one) for least in found]):
            found.append(one)
    return found
