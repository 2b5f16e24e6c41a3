"""Graphs: all states that steps lead to from a first state, and the steps between them."""

from oncepost.errors import TooMany
from oncepost.moves import is_possible, state_after

MOST_STATES = 2000


class Graph:
    """The states that steps lead to, told by their numbers, in the order of the least steps that lead there.

    The first state has the number 0. Steps are told by their places in all_steps.
    """

    def __init__(self, plan, first):
        self.plan = plan
        self.states = [first]
        # For each state its possible steps, in order, each with the number of the state after it.
        self.exits = []
        # For each state but the first: the state before it on the least way there, and the step between them.
        self.origins = [None]
        numbers = {first: 0}
        # The states are gone through in the order in which they were found, and the steps of each in order: so a
        # state is found by the least steps that lead there.
        while len(self.exits) < len(self.states):
            self.exits.append(self.explored(len(self.exits), numbers))

    def explored(self, number, numbers):
        """The exits of a state; what is found for the first time gets the next number."""
        state = self.states[number]
        found = []
        for place, step in enumerate(self.plan.all_steps):
            if not is_possible(self.plan, state, step):
                continue
            after = state_after(self.plan, state, step)
            if after not in numbers:
                if len(self.states) == MOST_STATES:
                    raise TooMany(MOST_STATES)
                numbers[after] = len(self.states)
                self.states.append(after)
                self.origins.append((number, place))
            found.append((place, numbers[after]))
        return found

    def last_numbers(self):
        """The numbers of the states without possible steps."""
        return [number for number, exits in enumerate(self.exits) if len(exits) == 0]

    def steps_to(self, number):
        """The least steps that lead to a state, a tuple."""
        steps = []
        while number > 0:
            number, place = self.origins[number]
            steps.append(self.plan.all_steps[place])
        return tuple(steps[::-1])

    def downward(self):
        """The numbers of the states, each one before those that steps lead to from it."""
        waiting = [0 for _ in self.states]
        for exits in self.exits:
            for _, after in exits:
                waiting[after] += 1
        found = [0]
        at = 0
        while at < len(found):
            exits = self.exits[found[at]]
            for _, after in exits:
                waiting[after] -= 1
                if waiting[after] == 0:
                    found.append(after)
            at += 1
        return found
