"""What ways can do: the numbers of commits and posts, and systems of a way with an end that is so by a word."""

from oncepost.errors import InvalidCount, InvalidWay
from oncepost.forms import is_number
from oncepost.judging import check_word, numbers_so
from oncepost.searches import graph_of
from oncepost.systems import Service, System
from oncepost.ways import is_way

# What the handlers of witnesses do: they count in the row n, and tell it.
COUNT = ("set", "n", ("+", ("row", "n"), ("value", 1)))
TELL = ("send", "told", None, ("row", "n"))
NONE_YET = ("=", ("row", "n"), ("value", 0))


def account(way, copies, crashes, losses):
    """(least commits, most commits, least posts, most posts) of a service of this way that handles one command.

    The log of the command has so many copies of its entry behind it; the handler sends one message of the world.
    """
    if not is_way(way):
        raise InvalidWay(way)
    # 10 ** 100
    most = 10 ** 50 * 10 ** 50
    for value in (copies, crashes, losses):
        if not is_number(value) or not 0 <= value <= most:
            raise InvalidCount(value)
    posting, keeping, _, marking = way
    least, runs = runs_of(way, copies + 1, crashes)
    commits = 1 if keeping == "inbox" else runs
    if posting == "before":
        return (least, commits, least, runs + losses)
    if posting == "after":
        # A crash between the commit and the post: what is in the inbox is not run again.
        return (least, commits, max(0, 1 - crashes) if keeping == "inbox" else least, commits + losses)
    if marking == "behind":
        # Each crash may come between a relay and its mark, also if it brings a commit more.
        return (least, commits, least, commits + crashes + losses)
    # Each crash may take what is held, also if it takes a hand that has still to commit.
    return (least, commits, max(0, least - crashes), commits + losses)


def runs_of(way, entries, crashes):
    """The fewest runs that are committed, and the most that begin, but for what an inbox bars behind a commit."""
    _, keeping, answering, _ = way
    if answering == "behind":
        # No entry is answered for that was not committed, and each crash may bring it back.
        least = entries if keeping == "plain" else 1
        return least, least + crashes
    # No entry is taken again, and each crash may take one away that has still to be committed.
    if keeping == "plain":
        return max(0, entries - crashes), entries
    return 0 if crashes >= entries else 1, min(entries, crashes + 1)


def witness(way, word):
    """A system of this way and a whole schedule of it to an end that is so by a word; None if no system has one."""
    if not is_way(way):
        raise InvalidWay(way)
    check_word(word)
    system = suspect(way, word)
    graph = graph_of(system)
    numbers = numbers_so(system, graph, [word])
    return None if len(numbers) == 0 else (system, graph.steps_to(numbers[0]))


def suspect(way, word):
    """A system of this way that has an end that is so by a word if any system of this way has one."""
    if word == "again":
        return alone(way, {"a": (TELL,)}, 0, 1)
    if word == "lost":
        # If it is run once more it sends nothing.
        return alone(way, {"a": (("if", NONE_YET, (COUNT, TELL), ()),)}, 1, 0)
    if word == "made":
        # The command b may come between two runs of a, and then the second one sends nothing.
        return alone(way, {"a": (("if", NONE_YET, (TELL,), ()),), "b": (COUNT,)}, 1, 0)
    # The entry of b may be there twice, or a crash may bring it back; what its run tells is told by the row. With an
    # inbox only c may come between two runs of b; without one c would make the search long for nothing.
    sender = Service("s", {"a": (("send", "b", None, ("body",)),)}, way, losses=1)
    taker = Service("t", {"b": (TELL, COUNT), "c": (COUNT,)}, way, crashes=1)
    return System(["a", "b", "c", "told"], [sender, taker], commands_of("ac" if way[1] == "inbox" else "a"))


def alone(way, handlers, crashes, losses):
    """A system of one service with these handlers and budgets, and a command of each kind that it handles."""
    service = Service("s", handlers, way, crashes=crashes, losses=losses)
    return System([*sorted(handlers), "told"], [service], commands_of(sorted(handlers)))


def commands_of(kinds):
    """A command of each kind."""
    return [(kind, "k", 1) for kind in kinds]
