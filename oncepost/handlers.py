"""Handlers: their form, their runs and their footprints."""

from oncepost.errors import InvalidHandler, InvalidMessage, InvalidRows
from oncepost.forms import is_message, is_rows, is_tuple_of, is_word
from oncepost.runs import run_of
from oncepost.trees import is_condition, is_expression, row_names

MOST_DEEDS = 12
MOST_IFS = 3


def is_handler(value):
    """Whether any value has the form of a handler."""
    return room_after(value, MOST_DEEDS, MOST_IFS) is not None


def room_after(deeds, room, ifs):
    """How many of room more deeds may stand behind these; None if they are no deeds or too many.

    So many ifs may stand one within the other in them.
    """
    if not isinstance(deeds, tuple):
        return None
    for deed in deeds:
        # Told deed by deed, so that what is much too long is left early.
        if room == 0:
            return None
        room = room_after_deed(deed, room - 1, ifs)
        if room is None:
            return None
    return room


def room_after_deed(deed, room, ifs):
    """How many of room more deeds may stand behind this one and those in it, or None."""
    if is_single_deed(deed):
        return room
    if ifs == 0 or not is_tuple_of(deed, 4) or deed[0] != "if" or not is_condition(deed[1]):
        return None
    room = room_after(deed[2], room, ifs - 1)
    if room is None:
        return None
    return room_after(deed[3], room, ifs - 1)


def is_single_deed(value):
    """Whether any value is a set, a send or a fail."""
    if not isinstance(value, tuple) or len(value) == 0:
        return False
    head = value[0]
    if head == "set":
        return len(value) == 3 and is_word(value[1]) and is_expression(value[2])
    if head == "send":
        return len(value) == 4 and is_word(value[1]) and is_key(value[2]) and is_expression(value[3])
    return head == "fail" and len(value) == 1


def is_key(value):
    """Whether any value is the key of a send."""
    return value is None or is_word(value)


def footprint(handler):
    """The names that a handler reads, those that it sets, and the kinds that it sends."""
    if not is_handler(handler):
        raise InvalidHandler(handler)
    deeds = all_deeds(handler)
    reads = [name for deed in deeds for tree in trees_of(deed) for name in row_names(tree)]
    writes = [deed[1] for deed in deeds if deed[0] == "set"]
    kinds = [deed[1] for deed in deeds if deed[0] == "send"]
    return (tuple(sorted(set(reads))), tuple(sorted(set(writes))), tuple(sorted(set(kinds))))


def all_deeds(deeds):
    """The deeds and those in their ifs, also those that can't be come to."""
    found = []
    for deed in deeds:
        found.append(deed)
        if deed[0] == "if":
            found.extend(all_deeds(deed[2]))
            found.extend(all_deeds(deed[3]))
    return found


def trees_of(deed):
    """The expression or the condition that stands in a deed itself, in a tuple, () of a fail."""
    if deed[0] == "if":
        return (deed[1],)
    if deed[0] == "fail":
        return ()
    return (deed[-1],)


def most_sends(deeds):
    """How many messages a run of the deeds can send, told from the tree: a fail ends nothing."""
    many = 0
    for deed in deeds:
        if deed[0] == "send":
            many += 1
        if deed[0] == "if":
            many += max(most_sends(deed[2]), most_sends(deed[3]))
    return many


def run_handler(handler, rows, message):
    """The end of the run of a handler on rows and a message: ("done", rows, sends) or ("failed",)."""
    if not is_handler(handler):
        raise InvalidHandler(handler)
    if not is_rows(rows):
        raise InvalidRows(rows)
    if not is_message(message):
        raise InvalidMessage(message)
    run = run_of(handler, rows, message)
    if run.failed:
        return ("failed",)
    return ("done", run.rows(), run.told())
