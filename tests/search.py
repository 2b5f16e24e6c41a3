"""Plain searches through all schedules that are alike, for short ones."""

import random

from oncepost.ways import Ways
from tests.draws import drawn_spec, drawn_steps, system_of
from tests.plain import Plain, played


def all_alike(plain, steps):
    """All schedules that exchanges of neighbours that are apart lead to, as tuples of steps."""
    found = {steps}
    waiting = [steps]
    while waiting:
        one = waiting.pop()
        for at in range(len(one) - 1):
            if plain.lines(one[at]) & plain.lines(one[at + 1]):
                continue
            other = (*one[:at], one[at + 1], one[at], *one[at + 2:])
            if other not in found:
                found.add(other)
                waiting.append(other)
    return found


def cut_after(plain, lines, steps):
    """The cut of the first steps of a schedule, in the lines of the whole one."""
    return tuple((line, sum(line in plain.lines(step) for step in steps)) for line in lines)


class Searched:
    """A short schedule, with all that are alike and what these tell."""

    def __init__(self, spec, steps):
        self.spec = spec
        self.steps = steps
        self.plain = Plain(spec)
        self.alike = all_alike(self.plain, steps)
        self.lines = sorted({line for step in steps for line in self.plain.lines(step)})
        # For each whole cut the set of its steps, told by the first alike schedule that has it.
        self.cuts = {}
        for other in sorted(self.alike):
            for many in range(len(other) + 1):
                self.cuts.setdefault(cut_after(self.plain, self.lines, other[:many]), other[:many])

    def order(self):
        """The whole cuts in the order of point 32."""
        return sorted(self.cuts, key=lambda cut: (len(self.cuts[cut]), cut))

    def state(self, steps):
        return played(self.spec, steps).tree()

    def before(self, i, j):
        """Whether step i is before step j: by steps between, as the definition tells."""
        reached = {i}
        for at in range(i + 1, j + 1):
            lines = self.plain.lines(self.steps[at])
            if any(lines & self.plain.lines(self.steps[other]) for other in reached):
                reached.add(at)
        return i < j and j in reached

    def key(self, steps):
        return [self.plain.rank(step) for step in steps]


def separate_spec(ways):
    """A specification of services that share nothing, each with one command and a message for the world."""
    names = ("ann", "bob", "cy")[:len(ways)]
    handler = (("set", "a", ("+", ("row", "a"), ("body",))),)
    services = [
        {
            "name": name,
            "handlers": {name: (*handler, ("send", name + "x", None, ("row", "a")))},
            "way": way,
            "crashes": 1,
            "losses": 1,
        }
        for name, way in zip(names, ways)
    ]
    kinds = [*names, *[name + "x" for name in names]]
    return {"kinds": kinds, "services": services, "commands": [(name, "j", 1) for name in names]}


def short_ones(seeds, most_steps=9, most_alike=400, separate=False):
    """Short schedules of systems drawn at random, for each seed; of services that share nothing if separate."""
    for seed in seeds:
        spec = drawn_spec(seed)
        if separate:
            draw = random.Random(seed)
            spec = separate_spec([draw.choice(Ways.every()) for _ in range(draw.randint(2, 3))])
        steps = drawn_steps(system_of(spec), seed, most_steps)
        if not steps:
            continue
        while len(all_alike(Plain(spec), steps)) > most_alike:
            steps = steps[:-1]
        yield seed, Searched(spec, steps)
