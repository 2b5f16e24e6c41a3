"""The steps of a system: when each is possible, and what it does to a state."""

from oncepost.runs import run_of
from oncepost.states import BOOK, CRASHES, HAND, INBOX, LOSSES, OUTS, ROWS
from oncepost.states import has_ident, is_next, log_of, next_deed, part_of
from oncepost.states import with_commit, with_entry, with_ident, with_log, with_next_done, with_part
from oncepost.states import with_sent, with_service


def out_of(plan, own, step):
    """The outbox of a relay or a mark, what is held, and the place of what is held among the outs."""
    at = 2 * plan.sent_kinds[step[1]].index(step[2])
    return own[OUTS][at], own[OUTS][at + 1], at + 1


def entry_due(plan, state, step):
    """The entry that a relay, a post or a lose would append, or None if it is not possible."""
    own = part_of(plan, state, step[1])
    posting, _, _, marking = plan.service_named(step[1]).way
    if posting != "outbox":
        deed = next_deed(own)
        return (deed[2], deed[3]) if is_next(own, "post") and deed[1] == step[2] else None
    outbox, held, _ = out_of(plan, own, step)
    if marking == "ahead":
        return held
    return outbox[0] if held is None and len(outbox) > 0 else None


def can_take(plan, state, step):
    """Whether the service has no hand, and the log is longer than its position."""
    entries, position = log_of(plan, state, step[1])
    own = part_of(plan, state, plan.owners[step[1]].name)
    return own[HAND] is None and len(entries) > position


def can_do_next(plan, state, step):
    """Whether a commit or a note is next."""
    return is_next(part_of(plan, state, step[1]), step[0])


def can_answer(plan, state, step):
    """Whether the answer is next in a hand of this kind."""
    own = part_of(plan, state, plan.owners[step[1]].name)
    return is_next(own, "answer") and own[HAND][0] == step[1]


def can_publish(plan, state, step):
    """Whether a relay or a post is possible."""
    return entry_due(plan, state, step) is not None


def can_mark(plan, state, step):
    """Whether an entry can leave its outbox."""
    outbox, held, _ = out_of(plan, part_of(plan, state, step[1]), step)
    if plan.service_named(step[1]).way[3] == "ahead":
        return held is None and len(outbox) > 0
    return held is not None


def can_lose(plan, state, step):
    """Whether a loss is left, and there is an entry to publish."""
    return part_of(plan, state, step[1])[LOSSES] > 0 and entry_due(plan, state, step) is not None


def can_crash(plan, state, step):
    """Whether a crash is left, and the service has a hand or holds an entry."""
    own = part_of(plan, state, step[1])
    return own[CRASHES] > 0 and (own[HAND] is not None or any([held is not None for held in own[OUTS][1::2]]))


def work_of(service, own, message, ident):
    """What is to be done with an entry that was taken, a tuple."""
    posting, keeping, answering, _ = service.way
    answer = (("answer",),)
    if keeping != "plain" and has_ident(own[INBOX], ident):
        return answer
    run = run_of(service.handler_for(message[0]), own[ROWS], message)
    posts = tuple([("post", sent[0], (*ident, at), sent) for at, sent in enumerate(run.told())])
    work = (("commit",),)
    if posting == "after":
        work = work + posts
    if posting == "before":
        work = posts + work
    if keeping == "late":
        work = (*work, ("note",))
    return answer + work if answering == "ahead" else work + answer


def take(plan, state, step):
    """The state after a take."""
    entries, position = log_of(plan, state, step[1])
    ident, message = entries[position]
    service = plan.owners[step[1]]
    own = part_of(plan, state, service.name)
    hand = (step[1], position, work_of(service, own, message, ident))
    return with_service(plan, state, service.name, with_part(own, HAND, hand))


def commit(plan, state, step):
    """The state after a commit."""
    kind, place, _ = part_of(plan, state, step[1])[HAND]
    after = state_committed(plan, state, kind, place)
    return with_service(plan, after, step[1], with_next_done(part_of(plan, after, step[1])))


def state_committed(plan, state, kind, place):
    """The state after a run of an entry of a log is committed by the service of its kind, whatever is in its hand."""
    service = plan.owners[kind]
    posting, keeping, _, _ = service.way
    own = part_of(plan, state, service.name)
    ident, message = log_of(plan, state, kind)[0][place]
    run = run_of(service.handler_for(kind), own[ROWS], message)
    sent = run.told()
    if not run.failed:
        own = with_part(own, ROWS, run.rows())
    if keeping == "inbox":
        own = with_part(own, INBOX, with_ident(own[INBOX], ident))
    if posting == "outbox":
        own = with_part(own, OUTS, with_sent(plan.sent_kinds[service.name], own[OUTS], ident, sent))
    own = with_part(own, BOOK, with_commit(own[BOOK], ident, len(sent)))
    return with_service(plan, state, service.name, own)


def post(plan, state, step):
    """The state after a post."""
    after = with_entry(plan, state, step[2], entry_due(plan, state, step))
    return with_service(plan, after, step[1], with_next_done(part_of(plan, state, step[1])))


def note(plan, state, step):
    """The state after a note."""
    own = part_of(plan, state, step[1])
    kind, place, _ = own[HAND]
    ident = log_of(plan, state, kind)[0][place][0]
    own = with_part(own, INBOX, with_ident(own[INBOX], ident))
    return with_service(plan, state, step[1], with_next_done(own))


def answer_for(plan, state, step):
    """The state after an answer."""
    name = plan.owners[step[1]].name
    own = part_of(plan, state, name)
    entries, _ = log_of(plan, state, step[1])
    after = with_log(plan, state, step[1], (entries, own[HAND][1] + 1))
    return with_service(plan, after, name, with_next_done(own))


def relay(plan, state, step):
    """The state after a relay: what was first is held, or what was held is no more."""
    own = part_of(plan, state, step[1])
    entry = entry_due(plan, state, step)
    _, held, at = out_of(plan, own, step)
    outs = with_part(own[OUTS], at, entry if held is None else None)
    after = with_entry(plan, state, step[2], entry)
    return with_service(plan, after, step[1], with_part(own, OUTS, outs))


def mark(plan, state, step):
    """The state after a mark: the first entry leaves the outbox, and is held with marking "ahead"."""
    own = part_of(plan, state, step[1])
    outbox, held, at = out_of(plan, own, step)
    outs = with_part(own[OUTS], at - 1, outbox[1:])
    outs = with_part(outs, at, outbox[0] if held is None else None)
    return with_service(plan, state, step[1], with_part(own, OUTS, outs))


def lose(plan, state, step):
    """The state after a lose."""
    own = part_of(plan, state, step[1])
    after = with_entry(plan, state, step[2], entry_due(plan, state, step))
    return with_service(plan, after, step[1], with_part(own, LOSSES, own[LOSSES] - 1))


def crash(plan, state, step):
    """The state after a crash: hand and held entries are forgotten."""
    own = part_of(plan, state, step[1])
    outs = tuple([outbox if at % 2 == 0 else None for at, outbox in enumerate(own[OUTS])])
    own = with_part(with_part(own, OUTS, outs), HAND, None)
    return with_service(plan, state, step[1], with_part(own, CRASHES, own[CRASHES] - 1))


CHECKS = {
    "take": can_take,
    "commit": can_do_next,
    "post": can_publish,
    "note": can_do_next,
    "answer": can_answer,
    "relay": can_publish,
    "mark": can_mark,
    "lose": can_lose,
    "crash": can_crash,
}

MOVES = {
    "take": take,
    "commit": commit,
    "post": post,
    "note": note,
    "answer": answer_for,
    "relay": relay,
    "mark": mark,
    "lose": lose,
    "crash": crash,
}


def is_possible(plan, state, step):
    """Whether a step of the system is possible in a state."""
    check = CHECKS[step[0]]
    return check(plan, state, step)


def can_do(plan, state, value):
    """Whether any value is a step that is possible in a state."""
    return plan.has_step(value) and is_possible(plan, state, value)


def state_after(plan, state, step):
    """The state after a possible step."""
    move = MOVES[step[0]]
    return move(plan, state, step)
