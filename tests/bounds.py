"""Systems that lead to exactly 2,000 states, and to 2,001."""

from oncepost.systems import Service, System
from oncepost.ways import Ways

TO_V = (("send", "v", None, ("body",)),)
TO_W = (("send", "w", None, ("body",)),)


def pair(commands, first, second):
    """Two services that share nothing, for the kinds a and b, each with a way, crashes and losses."""
    services = [
        Service(name, handlers, way, crashes=crashes, losses=losses)
        for name, handlers, (way, crashes, losses) in (("s", {"a": TO_V}, first), ("t", {"b": TO_W}, second))
    ]
    return System(["a", "b", "v", "w"], services, [(kind, "k", 1) for kind in commands])


def just_enough():
    """A system with 2,000 states: 20 of the one part times 100 of the other."""
    return pair("ab", (Ways.SAFE, 0, 2), (Ways.SAFE, 1, 3))


def too_many():
    """A system with 2,001 states: 69 times 29."""
    return pair("aab", (("outbox", "late", "ahead", "ahead"), 0, 2), (("outbox", "inbox", "ahead", "behind"), 2, 0))
