"""Which messages may come again to a service, told by a rule that looks at one state alone."""

from oncepost.states import HAND, INBOX, OUTS, has_ident, log_of, part_of


def may_come(plan, state, name, ident):
    """Whether the message of an id may come again to a service."""
    kinds = plan.service_named(name).kinds
    if is_logged(plan, state, kinds, ident) or is_on_its_way(plan, state, kinds, ident):
        return True
    if len(ident) == 1:
        return False
    senders = [sender for sender in plan.sent_kinds if sends_any(plan, sender, kinds)]
    return any([may_run(plan, state, sender, ident[:-1]) for sender in senders])


def may_run(plan, state, name, ident):
    """Whether the message of an id may be run again by a service."""
    if has_ident(part_of(plan, state, name)[INBOX], ident):
        return False
    return is_in_hand(plan, state, name, ident) or may_come(plan, state, name, ident)


def sends_any(plan, name, kinds):
    """Whether a service can send one of these kinds."""
    return any([kind in kinds for kind in plan.sent_kinds[name]])


def is_logged(plan, state, kinds, ident):
    """Whether an entry with an id is in the log of one of these kinds, at its position or later."""
    for kind in kinds:
        entries, position = log_of(plan, state, kind)
        if any([other == ident for other, _ in entries[position:]]):
            return True
    return False


def is_on_its_way(plan, state, kinds, ident):
    """Whether an entry of one of these kinds with an id is in an outbox, held, or in a post of a hand."""
    return any([entry[0] == ident and entry[1][0] in kinds for own in state[1] for entry in entries_of(own)])


def entries_of(own):
    """The entries that a service has still to publish: in its outboxes, held, and in the posts of its hand."""
    found = []
    for outbox in own[OUTS][::2]:
        found.extend(outbox)
    found.extend([held for held in own[OUTS][1::2] if held is not None])
    if own[HAND] is not None:
        found.extend([(deed[2], deed[3]) for deed in own[HAND][2] if deed[0] == "post"])
    return found


def is_in_hand(plan, state, name, ident):
    """Whether the entry of an id is in the hand of a service, which has still to commit it."""
    hand = part_of(plan, state, name)[HAND]
    if hand is None:
        return False
    kind, place, todo = hand
    return ("commit",) in todo and log_of(plan, state, kind)[0][place][0] == ident
