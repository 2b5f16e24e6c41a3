"""Systems and schedules that are drawn at random, from seeds, and a few systems by hand."""

import random

from oncepost.systems import Service, System
from oncepost.errors import InvalidService, InvalidSystem
from oncepost.ways import Ways

NAMES = ("a", "n")
KEYS = ("j", "k")


def system_of(spec):
    """The system of a specification (see tests.plain)."""
    services = [
        Service(one["name"], one["handlers"], one["way"], crashes=one["crashes"], losses=one["losses"])
        for one in spec["services"]
    ]
    return System(spec["kinds"], services, spec["commands"])


def drawn_expression(draw, deep=3):
    choice = draw.randrange(6 if deep > 1 else 4)
    if choice == 0:
        return ("value", draw.randint(-2, 2))
    if choice == 1:
        return ("body",)
    if choice < 4:
        return ("row", draw.choice(NAMES))
    return (draw.choice("+-*"), drawn_expression(draw, deep - 1), drawn_expression(draw, deep - 1))


def drawn_condition(draw, deep=2):
    choice = draw.randrange(5 if deep > 1 else 2)
    if choice < 2:
        return ("<="[choice], drawn_expression(draw, 2), drawn_expression(draw, 2))
    if choice == 2:
        return ("not", drawn_condition(draw, deep - 1))
    return (("and", "or")[choice - 3], drawn_condition(draw, deep - 1), drawn_condition(draw, deep - 1))


def drawn_deeds(draw, later, room, deep=2):
    deeds = []
    for _ in range(draw.randint(1, room) if draw.randrange(8) else 0):
        choice = draw.randrange(10)
        if choice < 3:
            deeds.append(("set", draw.choice(NAMES), drawn_expression(draw)))
        elif choice < 7 and later:
            deeds.append(("send", draw.choice(later), draw.choice((None, None, *KEYS)), drawn_expression(draw)))
        elif choice < 9 and deep > 0:
            branches = [drawn_deeds(draw, later, 2, deep - 1) for _ in range(2)]
            deeds.append(("if", drawn_condition(draw), *branches))
        elif choice == 9 and draw.randrange(3) == 0:
            deeds.append(("fail",))
    return tuple(deeds)


def drawn_spec(seed, most_faults=1, most_commands=3, most_kinds=4):
    """A specification of a small system."""
    draw = random.Random(seed)
    while True:
        kinds = ["k" * (1 + at) for at in range(draw.randint(2, most_kinds))]
        draw.shuffle(kinds)
        # The last kind is more often than not one of the world.
        handled = [kind for kind in kinds[:-1] if draw.randrange(5)] + kinds[-1:] * (draw.randrange(3) == 0)
        names = draw.sample(["ann", "bob", "cy", "dan"], draw.randint(1, 3))
        services = []
        for name in names:
            mine = [handled.pop(0) for _ in range(draw.randint(1, 2)) if handled]
            handlers = {kind: drawn_deeds(draw, kinds[kinds.index(kind) + 1:], 4) for kind in mine}
            one = {
                "name": name,
                "handlers": handlers,
                "way": draw.choice(Ways.every()),
                "crashes": draw.randint(0, most_faults),
                "losses": draw.randint(0, most_faults),
            }
            services += [one] if mine else []
        commands = []
        for _ in range(draw.randint(1, most_commands)):
            asked = [kind for one in services for kind in one["handlers"]] + kinds[:1]
            commands.append((draw.choice(asked), draw.choice(KEYS), draw.randint(-3, 3)))
        spec = {"kinds": kinds, "services": services, "commands": commands}
        try:
            system_of(spec)
        except (InvalidService, InvalidSystem):
            continue
        return spec


def drawn_steps(system, seed, most=10 ** 6):
    """A schedule drawn at random, whole if it has at most so many steps."""
    draw = random.Random(seed)
    state, steps = system.begin, []
    while len(steps) < most:
        possible = system.possible(state)
        if not possible:
            break
        step = draw.choice(possible)
        steps.append(step)
        state = system.after(state, step)
    return tuple(steps)


def states_of(system, most):
    """The first states that schedules lead to, at most about so many, each once, with a schedule."""
    found = {system.begin: ()}
    waiting = [system.begin]
    while waiting and len(found) < most:
        state = waiting.pop(0)
        for step in system.possible(state):
            after = system.after(state, step)
            if after not in found:
                found[after] = (*found[state], step)
                waiting.append(after)
    return found
