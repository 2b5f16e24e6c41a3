"""Logs: the texts that the steps of a schedule write, a line for each step that a text keeps.

A writing is what a schedule has written so far: (texts, counts, clocks). There is a text, and the number of its lines,
for each kind and then for each service. Clocks is a dict from lines (of steps) to the clock of the last step with it:
for each text the number of its last line that is of this step or of one before it.
"""

from oncepost.moves import entry_due
from oncepost.states import HAND, part_of, with_part


def text_names(plan):
    """The names of the texts, a list: of kinds, then of services."""
    return [f"kind {kind}" for kind in plan.kinds] + [f"service {service.name}" for service in plan.services]


def blank_writing(plan):
    """The writing of no steps."""
    names = text_names(plan)
    return (tuple(["" for _ in names]), tuple([0 for _ in names]), {})


def written(plan, state, writing, step):
    """The writing after one step more, which is possible in the state."""
    texts, counts, clocks = writing
    clock = tuple([0 for _ in texts])
    for line in plan.step_lines[step]:
        clock = tuple([max(one, other) for one, other in zip(clock, clocks.get(line, clock))])
    at = place_of_text(plan, step)
    if at is not None:
        number = counts[at] + 1
        texts = with_part(texts, at, texts[at] + line_of(number, what_of(plan, state, step), clock))
        counts = with_part(counts, at, number)
        clock = with_part(clock, at, number)
    after = {line: clocks[line] for line in clocks}
    for line in plan.step_lines[step]:
        after[line] = clock
    return (texts, counts, after)


def place_of_text(plan, step):
    """The place of the text that a step appends to, None if it appends to none."""
    head = step[0]
    if head in ("take", "crash"):
        return None
    if head in ("commit", "note", "mark"):
        return len(plan.kinds) + plan.service_places[step[1]]
    return plan.kind_places[step[-1]]


def what_of(plan, state, step):
    """What a line tells of a step."""
    head = step[0]
    if head == "answer":
        return head
    if head == "mark":
        return f"mark {step[2]}"
    if head in ("commit", "note"):
        kind, place, _ = part_of(plan, state, step[1])[HAND]
        return f"{head} {kind} {place}"
    ident, (_, key, value) = entry_due(plan, state, step)
    return f"{head} {step[1]} {joined_numbers(ident)} {key} {value}"


def joined_numbers(numbers):
    """Numbers in decimal, joined by commas."""
    return ",".join([str(number) for number in numbers])


def line_of(number, what, clock):
    """The line of a text with this number, what it tells, and this clock."""
    start = f"{number} {what} {joined_numbers(clock)} "
    return start + str(sum_of(start)) + "\n"


def sum_of(text):
    """The sum of a line, told by all that stands before it."""
    return sum([at * ord(letter) for at, letter in enumerate(text, start=1)]) % 9973
