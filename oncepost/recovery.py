"""Recovery: the state that is told by texts of logs, whatever is left of them."""

from oncepost.forms import is_word
from oncepost.moves import state_committed
from oncepost.plans import is_of_way
from oncepost.states import INBOX, OUTS, log_of, part_of, with_entry, with_ident, with_log, with_part, with_service
from oncepost.writing import sum_of, text_names

DIGITS = "0123456789"
MOST_DIGITS = 9
HIGHEST = 99


def recovered_from(system, texts):
    """The state that texts tell, which are strings by their names, and how many lines of each were taken."""
    plan = system.plan
    names = text_names(plan)
    pages = [lines_of_text(texts[name], len(names)) for name in names]
    taken = [0 for _ in names]
    state = system.begin
    at = 0
    while at < len(names):
        after = None
        if taken[at] < len(pages[at]):
            words, clock = pages[at][taken[at]]
            if all([number <= many for number, many in zip(clock, taken)]):
                after = after_line(plan, state, at, words)
        if after is None:
            at += 1
            continue
        state = after
        taken[at] += 1
        at = 0
    return (state, {name: many for name, many in zip(names, taken)})


def lines_of_text(text, many):
    """What the lines of a text tell and their clocks of so many numbers, up to the first that is not of the form."""
    found = []
    # What stands behind the last newline is no whole line.
    for line in text.split("\n")[:-1]:
        told = told_by(line, len(found) + 1, many)
        if told is None:
            return found
        found.append(told)
    return found


def told_by(line, number, many):
    """What a line tells, a list of words, and its clock; None if it has not this number, a clock and its sum."""
    parts = line.split(" ")
    if len(parts) < 4 or parts[0] != str(number):
        return None
    clock = parts[-2].split(",")
    start = line[:len(line) - len(parts[-1])]
    if len(clock) != many or not are_numerals(clock) or parts[-1] != str(sum_of(start)):
        return None
    return parts[1:-2], [int(part) for part in clock]


def is_numeral(text):
    """Whether it is an integer from 0 in decimal, without leading zeros, that is not too long."""
    if not 1 <= len(text) <= MOST_DIGITS or not all([letter in DIGITS for letter in text]):
        return False
    return text == "0" or text[0] != "0"


def are_numerals(texts):
    """Whether all of them are."""
    return all([is_numeral(text) for text in texts])


def is_value_text(text):
    """Whether it is a value in decimal."""
    if text.startswith("-"):
        return text != "-0" and is_value_text_from_zero(text[1:])
    return is_value_text_from_zero(text)


def is_value_text_from_zero(text):
    """Whether it is a value from 0 in decimal."""
    return is_numeral(text) and int(text) <= HIGHEST


def after_line(plan, state, at, words):
    """The state after what a line of the text at this place tells; None if this is no step of it or can't be done."""
    if at < len(plan.kinds):
        kind = plan.kinds[at]
        return after_answer(plan, state, kind) if words == ["answer"] else after_entry(plan, state, kind, words)
    service = plan.services[at - len(plan.kinds)]
    if len(words) == 2 and words[0] == "mark":
        return after_mark(plan, state, service, words[1])
    return after_run(plan, state, service, words)


def after_answer(plan, state, kind):
    """The state after an answer, or None."""
    entries, position = log_of(plan, state, kind)
    if kind not in plan.owners or len(entries) <= position:
        return None
    return with_log(plan, state, kind, (entries, position + 1))


def after_entry(plan, state, kind, words):
    """The state after a post, a relay or a lose, or None."""
    if len(words) != 5 or words[0] not in ("post", "relay", "lose"):
        return None
    head, name, ident, key, value = words
    if not are_numerals(ident.split(",")) or not is_word(key) or not is_value_text(value):
        return None
    if kind not in plan.sent_kinds.get(name, ()) or not is_of_way(head, plan.service_named(name).way):
        return None
    entry = (tuple([int(part) for part in ident.split(",")]), (kind, key, int(value)))
    return with_entry(plan, state, kind, entry)


def after_mark(plan, state, service, kind):
    """The state after a mark, or None."""
    sent = plan.sent_kinds[service.name]
    if kind not in sent or not is_of_way("mark", service.way):
        return None
    own = part_of(plan, state, service.name)
    at = 2 * sent.index(kind)
    if len(own[OUTS][at]) == 0:
        return None
    outs = with_part(own[OUTS], at, own[OUTS][at][1:])
    return with_service(plan, state, service.name, with_part(own, OUTS, outs))


def after_run(plan, state, service, words):
    """The state after a commit or a note, or None."""
    if len(words) != 3 or words[0] not in ("commit", "note") or not is_numeral(words[2]):
        return None
    head, kind, place = words
    if kind not in service.kinds or not is_of_way(head, service.way):
        return None
    entries, _ = log_of(plan, state, kind)
    if int(place) >= len(entries):
        return None
    if head == "commit":
        return state_committed(plan, state, kind, int(place))
    own = part_of(plan, state, service.name)
    inbox = with_ident(own[INBOX], entries[int(place)][0])
    return with_service(plan, state, service.name, with_part(own, INBOX, inbox))
