"""Histories: the facts of a schedule and what each of them needs, told while its steps are done."""

from oncepost.moves import state_after
from oncepost.runs import run_of
from oncepost.states import ROWS, log_of, part_of


class History:
    """The state after the steps that were done, and a dict from the facts so far to what each needs."""

    def __init__(self, plan, begin):
        self.plan = plan
        self.state = begin
        self.needs = {}
        for kind, log in zip(plan.kinds, begin[0]):
            for place in range(len(log[0])):
                self.needs[("entry", kind, place)] = ()
        # For each service how many commits it did, and the run of its hand with what its commit needs.
        self.commits = {service.name: 0 for service in plan.services}
        self.hands = {}
        # For each row that a commit set, under (service, name, key), the fact of the last one.
        self.rows_set = {}
        # For each outbox, under (service, kind), the commits of its entries, and the one of what is held.
        self.boxes = {(name, kind): [] for name in plan.sent_kinds for kind in plan.sent_kinds[name]}
        self.held = {}

    def do(self, step):
        """Does a possible step, and keeps what it tells."""
        head = step[0]
        if head == "take":
            self.keep_take(step[1])
        if head == "commit":
            self.keep_commit(step[1])
        if head in ("post", "relay", "lose"):
            self.keep_entry(step[1], step[2])
        if head == "mark":
            self.keep_mark(step[1], step[2])
        self.state = state_after(self.plan, self.state, step)

    def keep_take(self, kind):
        """Keeps the run of the entry that is taken, and what its commit needs."""
        service = self.plan.owners[kind]
        entries, position = log_of(self.plan, self.state, kind)
        message = entries[position][1]
        own = part_of(self.plan, self.state, service.name)
        run = run_of(service.handler_for(kind), own[ROWS], message)
        places = [(service.name, name, key) for name, key in run.reads]
        rows = [self.rows_set[place] for place in places if place in self.rows_set]
        self.hands[service.name] = (run, tuple(sorted([("entry", kind, position), *rows])))

    def keep_commit(self, name):
        """Keeps a commit, the rows that it sets, and that it puts entries into outboxes."""
        run, needs = self.hands[name]
        number = self.commits[name]
        fact = ("commit", name, number)
        self.commits[name] = number + 1
        self.needs[fact] = needs
        for sent in run.told():
            self.boxes[(name, sent[0])].append(fact)
        if run.failed:
            return
        for word, key in run.writes:
            row = ("row", name, word, key, number)
            self.needs[row] = (fact,)
            self.rows_set[(name, word, key)] = row

    def keep_entry(self, name, kind):
        """Keeps an entry that comes into a log."""
        place = len(log_of(self.plan, self.state, kind)[0])
        self.needs[("entry", kind, place)] = self.needs_of_entry(name, kind)

    def needs_of_entry(self, name, kind):
        """What the entry needs that a relay, a post or a lose appends."""
        posting, _, _, marking = self.plan.service_named(name).way
        if posting == "before":
            return self.hands[name][1]
        if posting == "after":
            # The commit in the same hand is the last one, since a service has one hand.
            return (("commit", name, self.commits[name] - 1),)
        return (self.held[(name, kind)] if marking == "ahead" else self.boxes[(name, kind)][0],)

    def keep_mark(self, name, kind):
        """Keeps that the first entry leaves an outbox: with marking "ahead" it is held."""
        # A crash takes back what is held, but then the next mark holds another entry before anything is published.
        self.held[(name, kind)] = self.boxes[(name, kind)].pop(0)
