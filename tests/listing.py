"""Plain searches: all whole schedules of small systems, listed one by one, and all states without a bound.

They use nothing of the package but possible and after of a system, which are held against a plain reading elsewhere.
"""

import functools

from oncepost.ways import Ways
from tests.draws import drawn_spec, system_of


class Moves:
    """The steps from states of a system, each asked for once."""

    def __init__(self, system):
        self.system = system
        self.known = {}
        self.numbers = {}

    def exits(self, state):
        """The possible steps of a state in order, each with the state after it."""
        if state not in self.known:
            possible = self.system.possible(state)
            self.known[state] = [(step, self.system.after(state, step)) for step in possible]
        return self.known[state]

    def how_many(self, state):
        """The number of the ways from a state to an end."""
        if state not in self.numbers:
            afters = [after for _, after in self.exits(state)]
            self.numbers[state] = sum(map(self.how_many, afters)) if afters else 1
        return self.numbers[state]

    def listed(self, state, steps=()):
        """All ways from a state to an end, each with the end."""
        if not self.exits(state):
            yield steps, state
        for step, after in self.exits(state):
            yield from self.listed(after, (*steps, step))


def states_from(system, state, most=10 ** 4):
    """All states that steps lead to from a state, a list in the order in which they are found; soon more than most."""
    found = {state: True}
    waiting = [state]
    for one in waiting:
        if len(waiting) > most:
            break
        for step in system.possible(one):
            after = system.after(one, step)
            if after not in found:
                found[after] = True
                waiting.append(after)
    return waiting


def rank(system):
    """The key by which schedules are compared: the fewest steps, of these the least."""
    places = {step: at for at, step in enumerate(system.all_steps)}
    return lambda steps: (len(steps), [places[step] for step in steps])


class Listing:
    """All whole schedules of a system, or all ways to an end from a state, each with its end, the least first."""

    def __init__(self, system, state=None):
        self.system = system
        self.moves = Moves(system)
        key = rank(system)
        begin = system.begin if state is None else state
        self.whole = sorted(self.moves.listed(begin), key=lambda pair: key(pair[0]))
        self.states = set(self.moves.known)

    def least(self, told_of):
        """For each thing that is told of an end the least steps to an end of which it is told."""
        found = {}
        for steps, end in self.whole:
            found.setdefault(told_of(end), steps)
        return found

    def by_length(self):
        longest = max(len(steps) for steps, _ in self.whole)
        return tuple(sum(len(steps) == length for steps, _ in self.whole) for length in range(longest + 1))

    def classes(self):
        """How many there are but for alikeness: with other steps, or another order of them, on some line."""
        found = set()
        for steps, _ in self.whole:
            lines = {}
            for step in steps:
                for line in self.system.lines_of(step):
                    lines.setdefault(line, []).append(step)
            found.add(tuple(sorted((line, tuple(told)) for line, told in lines.items())))
        return len(found)

    def face(self, end):
        """The face of an end: without the last two parts of each service."""
        return (end[0], tuple((rows, inbox, book, outs, hand) for rows, inbox, book, outs, hand, _, _ in end[1]))

    def spent(self, end):
        """What the schedules to an end have spent of the budgets."""
        services = self.system.services
        return tuple((one.crashes - own[5], one.losses - own[6]) for one, own in zip(services, end[1]))


def drawn_ways(seed, most_faults=1):
    """A specification with a way of the first service that goes through all ways, and none to three commands."""
    spec = drawn_spec(seed, most_faults, most_commands=3, most_kinds=3)
    spec["services"][0]["way"] = Ways.every()[seed % 36]
    spec["commands"] = spec["commands"][:seed // 36 % 4]
    return spec


def lessened(spec):
    """A specification with one fault less, or else one command less."""
    for one in spec["services"]:
        for budget in ("losses", "crashes"):
            if one[budget]:
                one[budget] -= 1
                return
    spec["commands"].pop()


@functools.lru_cache(maxsize=None)
def drawn_listing(seed, most):
    """A specification drawn at random, and the listing of its system, which has at most so many whole schedules."""
    spec = drawn_ways(seed)
    while True:
        system = system_of(spec)
        moves = Moves(system)
        if moves.how_many(system.begin) <= most and len(moves.known) <= 2000:
            return spec, Listing(system)
        lessened(spec)


def drawn_listings(seeds, most=1500):
    """Systems drawn at random, all whole schedules of which are listed, at most so many."""
    for seed in seeds:
        yield seed, *drawn_listing(seed, most)
