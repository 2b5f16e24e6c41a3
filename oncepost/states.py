"""The parts of states, and states with other parts."""

ROWS = 0
INBOX = 1
BOOK = 2
OUTS = 3
HAND = 4
CRASHES = 5
LOSSES = 6


def with_part(parts, at, part):
    """The tuple with another part at this place."""
    return parts[:at] + (part,) + parts[at + 1:]


def place_among(parts, part):
    """How many parts of an ascending tuple are below this one."""
    low = 0
    high = len(parts)
    while low < high:
        middle = (low + high) // 2
        if parts[middle] < part:
            low = middle + 1
        else:
            high = middle
    return low


def has_ident(inbox, ident):
    """Whether an id is in an inbox."""
    at = place_among(inbox, ident)
    return at < len(inbox) and inbox[at] == ident


def with_ident(inbox, ident):
    """The inbox with an id, which may be there already."""
    if has_ident(inbox, ident):
        return inbox
    at = place_among(inbox, ident)
    return inbox[:at] + (ident,) + inbox[at:]


def with_commit(book, ident, sends):
    """The book with one commit more, of a run of this id that sent so many messages."""
    # (ident,) is below each line of this id and above all lines of lesser ids.
    at = place_among(book, (ident,))
    if at < len(book) and book[at][0] == ident:
        _, commits, most = book[at]
        return with_part(book, at, (ident, commits + 1, max(most, sends)))
    return book[:at] + ((ident, 1, sends),) + book[at:]


def first_state(plan, commands):
    """The state in the beginning."""
    logs = []
    for kind in plan.kinds:
        entries = [((at,), command) for at, command in enumerate(commands) if command[0] == kind]
        logs.append((tuple(entries), 0))
    return (tuple(logs), tuple([first_part(plan, service) for service in plan.services]))


def first_part(plan, service):
    """What is of a service in the state in the beginning."""
    outs = ()
    if service.way[0] == "outbox":
        outs = ((), None) * len(plan.sent_kinds[service.name])
    return ((), (), (), outs, None, service.crashes, service.losses)


def with_sent(kinds, outs, ident, sent):
    """The outs with the messages that the run of an id sent behind their outboxes."""
    for at, message in enumerate(sent):
        out = 2 * kinds.index(message[0])
        outs = with_part(outs, out, (*outs[out], ((*ident, at), message)))
    return outs


def log_of(plan, state, kind):
    """The log of a kind: (entries, position)."""
    return state[0][plan.kind_places[kind]]


def part_of(plan, state, name):
    """What is of a service in a state."""
    return state[1][plan.service_places[name]]


def with_log(plan, state, kind, log):
    """The state with another log of a kind."""
    logs, parts = state
    return (with_part(logs, plan.kind_places[kind], log), parts)


def with_service(plan, state, name, part):
    """The state with another part of a service."""
    logs, parts = state
    return (logs, with_part(parts, plan.service_places[name], part))


def with_entry(plan, state, kind, entry):
    """The state with one entry more in the log of a kind."""
    entries, position = log_of(plan, state, kind)
    return with_log(plan, state, kind, (entries + (entry,), position))


def next_deed(own):
    """What is next in the hand of a service, or () without a hand."""
    return () if own[HAND] is None else own[HAND][2][0]


def is_next(own, head):
    """Whether what is next in the hand of a service begins so."""
    return own[HAND] is not None and own[HAND][2][0][0] == head


def with_next_done(own):
    """What is of a service when what is next in its hand is done."""
    kind, place, todo = own[HAND]
    return with_part(own, HAND, (kind, place, todo[1:]) if len(todo) > 1 else None)
