"""What the words of judgements say of an end."""

from oncepost.states import BOOK, log_of


def born_in(system, state):
    """The ids that are born, the keys of a dict: those of commands, and of what committed runs sent."""
    found = {(at,): True for at in range(len(system.commands))}
    for own in state[1]:
        for ident, _, sends in own[BOOK]:
            for at in range(sends):
                child = (*ident, at)
                found[child] = True
    return found


def logged_in(system, state, kinds):
    """The ids of the entries in the logs of these kinds, the keys of a dict."""
    return {ident: True for kind in kinds for ident, _ in log_of(system.plan, state, kind)[0]}


def is_twice(system, state):
    """Whether a run of one id was committed more than once by one service."""
    return any([commits > 1 for own in state[1] for _, commits, _ in own[BOOK]])


def is_lost(system, state):
    """Whether a born id is in no log, or was never committed although its kind is handled."""
    logged = logged_in(system, state, system.kinds)
    handled = logged_in(system, state, [kind for kind in system.kinds if kind not in system.world])
    booked = {ident: True for own in state[1] for ident, _, _ in own[BOOK]}
    born = born_in(system, state)
    return any([ident not in logged or (ident in handled and ident not in booked) for ident in born])


def is_made(system, state):
    """Whether an entry has an id that is not born."""
    born = born_in(system, state)
    return any([ident not in born for ident in logged_in(system, state, system.kinds)])


def is_unlike(system, state):
    """Whether two entries of one id have unlike messages."""
    messages = {}
    for entries, _ in state[0]:
        for ident, message in entries:
            if messages.setdefault(ident, message) != message:
                return True
    return False


def is_again(system, state):
    """Whether one id is twice in a log of the world."""
    for kind in system.world:
        idents = [ident for ident, _ in log_of(system.plan, state, kind)[0]]
        if len(set(idents)) < len(idents):
            return True
    return False


TESTS = {
    "twice": is_twice,
    "lost": is_lost,
    "made": is_made,
    "unlike": is_unlike,
    "again": is_again,
}


def is_so_by(system, state, word):
    """Whether an end is so by one of the five words."""
    test = TESTS[word]
    return test(system, state)
