"""Systems of services that share nothing, so that the numbers of whole cuts of their schedules can be told."""

from oncepost.systems import Service, System

LATE = ("outbox", "late", "behind", "behind")
NAMES = ("a", "b", "c", "d")


def separate(many=4, crashes=3):
    """So many services, each with a kind of its own and one command, sending nothing."""
    services = [Service(name, {name: (("set", "n", ("body",)),)}, LATE, crashes=crashes) for name in NAMES[:many]]
    return System(NAMES[:many], services, [(name, "k", 1) for name in NAMES[:many]])


def chain(name, length):
    """So many steps of one service, each after the other: at most ten."""
    steps = [("take", name), ("crash", name)] * 3 + [("take", name), ("commit", name), ("note", name), ("answer", name)]
    return tuple(steps[:length])


def side_by_side(*lengths):
    """A schedule of chains of these lengths: the product of (length + 1) is the number of its whole cuts."""
    return tuple(step for name, length in zip(NAMES, lengths) for step in chain(name, length))
