"""A second, plain reading of points 20 to 24, 30 and 34: what the package tells is held against it.

It goes by a specification of a system: a dict with kinds, services (dicts, too) and commands. Its states are dicts and
lists that are changed in place. Nothing of the package but run_handler is used here.
"""

from oncepost.handlers import run_handler

WORDS = ("take", "commit", "post", "note", "answer", "relay", "mark", "lose", "crash")


def worth(tree, values, key, body, read):
    """The value of an expression; read is called with each name that is evaluated."""
    if tree[0] == "value":
        return tree[1]
    if tree[0] == "body":
        return body
    if tree[0] == "row":
        read(tree[1])
        return values.get((tree[1], key), 0)
    left = worth(tree[1], values, key, body, read)
    right = worth(tree[2], values, key, body, read)
    exact = {"+": left + right, "-": left - right, "*": left * right}[tree[0]]
    return min(99, max(-99, exact))


def truth(tree, values, key, body, read):
    if tree[0] in ("<", "="):
        left = worth(tree[1], values, key, body, read)
        right = worth(tree[2], values, key, body, read)
        return left < right if tree[0] == "<" else left == right
    parts = [truth(part, values, key, body, read) for part in tree[1:]]
    return {"not": not parts[0], "and": all(parts), "or": any(parts)}[tree[0]]


def names_read(handler, rows, message):
    """The names of the rows that a run reads before it sets them, and of those that it sets."""
    values, reads, writes = dict(rows), set(), set()
    _, key, body = message

    def read(name):
        if name not in writes:
            reads.add(name)

    # What is still to be done, the next deed last.
    waiting = list(reversed(handler))
    while waiting:
        deed = waiting.pop()
        if deed[0] == "fail":
            break
        if deed[0] == "set":
            values[(deed[1], key)] = worth(deed[2], values, key, body, read)
            writes.add(deed[1])
        if deed[0] == "send":
            worth(deed[3], values, key, body, read)
        if deed[0] == "if":
            branch = deed[2] if truth(deed[1], values, key, body, read) else deed[3]
            waiting.extend(reversed(branch))
    return reads, writes


def kinds_in(deeds):
    """The kinds that deeds send."""
    found = set()
    for deed in deeds:
        if deed[0] == "send":
            found.add(deed[1])
        if deed[0] == "if":
            found |= kinds_in(deed[2]) | kinds_in(deed[3])
    return found


class Plain:
    """A system by its specification, and the state that its steps have led to."""

    def __init__(self, spec):
        self.kinds = list(spec["kinds"])
        self.specs = {one["name"]: one for one in spec["services"]}
        self.names = sorted(self.specs)
        self.owner = {kind: name for name in self.names for kind in self.specs[name]["handlers"]}
        self.logs = {kind: [] for kind in self.kinds}
        self.positions = {kind: 0 for kind in self.kinds}
        self.facts = {}
        for at, command in enumerate(spec["commands"]):
            self.append(command[0], {"id": (at,), "message": command, "needs": set()})
        self.services = {name: self.service(self.specs[name]) for name in self.names}

    def service(self, one):
        outs = {}
        if one["way"][0] == "outbox":
            outs = {kind: {"box": [], "held": None} for kind in self.sends(one["name"])}
        return {
            "rows": {},
            "setters": {},
            "inbox": [],
            "book": {},
            "outs": outs,
            "hand": None,
            "commits": 0,
            "crashes": one["crashes"],
            "losses": one["losses"],
        }

    def sends(self, name):
        """The kinds that a service can send, in the order of the system."""
        sent = set()
        for handler in self.specs[name]["handlers"].values():
            sent |= kinds_in(handler)
        return [kind for kind in self.kinds if kind in sent]

    def append(self, kind, entry):
        self.facts[("entry", kind, len(self.logs[kind]))] = entry["needs"]
        self.logs[kind].append(entry)

    def all_steps(self):
        """All steps of the system by point 42, in the order of point 24."""
        steps = []
        for kind in self.owner:
            steps += [("take", kind), ("answer", kind)]
        for name in self.names:
            posting, keeping, _, _ = self.specs[name]["way"]
            steps += [("commit", name), ("crash", name)]
            steps += [("note", name)] if keeping == "late" else []
            for kind in self.sends(name):
                steps.append(("lose", name, kind))
                steps += [("relay", name, kind), ("mark", name, kind)] if posting == "outbox" else [("post", name, kind)]
        return sorted(steps, key=self.rank)

    def rank(self, step):
        """The key by which steps are compared."""
        if len(step) == 3:
            return (WORDS.index(step[0]), step[1], self.kinds.index(step[2]))
        if step[0] in ("take", "answer"):
            return (WORDS.index(step[0]), "", self.kinds.index(step[1]))
        return (WORDS.index(step[0]), step[1], 0)

    def lines(self, step):
        """The lines of a step by point 30, a set."""
        word = step[0]
        if word in ("take", "answer"):
            return {("hand", self.owner[step[1]]), ("log", step[1])}
        name = step[1]
        outbox = self.specs[name]["way"][0] == "outbox"
        outs = {("out", name, kind) for kind in self.sends(name)} if outbox else set()
        if word == "note":
            return {("hand", name)}
        if word in ("commit", "crash"):
            return {("hand", name)} | outs
        if word == "post":
            return {("hand", name), ("log", step[2])}
        if word == "relay":
            return {("out", name, step[2]), ("log", step[2])}
        if word == "mark":
            return {("out", name, step[2])}
        like = ("relay", name, step[2]) if outbox else ("post", name, step[2])
        return {("loss", name)} | self.lines(like)

    def next_deed(self, name):
        hand = self.services[name]["hand"]
        return hand["todo"][0] if hand else ("nothing",)

    def published(self, step):
        """The entry that a relay or a post of this service to this kind would append, or None."""
        _, name, kind = step
        service = self.services[name]
        if self.specs[name]["way"][0] != "outbox":
            deed = self.next_deed(name)
            return deed[2] if deed[:2] == ("post", kind) else None
        out = service["outs"][kind]
        if self.specs[name]["way"][3] == "ahead":
            return out["held"]
        if out["held"] is None and out["box"]:
            return out["box"][0]
        return None

    def can(self, step):
        """Whether a step of the system is possible."""
        word = step[0]
        if word == "take":
            free = self.services[self.owner[step[1]]]["hand"] is None
            return free and len(self.logs[step[1]]) > self.positions[step[1]]
        if word == "answer":
            hand = self.services[self.owner[step[1]]]["hand"]
            return hand is not None and hand["kind"] == step[1] and hand["todo"][0] == ("answer",)
        service = self.services[step[1]]
        if word in ("commit", "note"):
            return self.next_deed(step[1]) == (word,)
        if word in ("post", "relay"):
            return self.published(step) is not None
        if word == "lose":
            return service["losses"] > 0 and self.published(step) is not None
        if word == "mark":
            out = service["outs"][step[2]]
            if self.specs[step[1]]["way"][3] == "behind":
                return out["held"] is not None
            return out["held"] is None and bool(out["box"])
        busy = service["hand"] is not None or any(out["held"] is not None for out in service["outs"].values())
        return service["crashes"] > 0 and busy

    def possible(self):
        return [step for step in self.all_steps() if self.can(step)]

    def do(self, step):
        """Does a possible step."""
        getattr(self, "do_" + step[0])(*step[1:])

    def finish_next(self, name):
        hand = self.services[name]["hand"]
        hand["todo"].pop(0)
        if not hand["todo"]:
            self.services[name]["hand"] = None

    def rows_of(self, service):
        return tuple(sorted((place, value) for place, value in service["rows"].items() if value != 0))

    def do_take(self, kind):
        name = self.owner[kind]
        service = self.services[name]
        place = self.positions[kind]
        entry = self.logs[kind][place]
        hand = {"kind": kind, "place": place, "entry": entry, "commit": None}
        service["hand"] = hand
        posting, keeping, answering, _ = self.specs[name]["way"]
        if keeping in ("inbox", "late") and entry["id"] in service["inbox"]:
            hand["todo"] = [("answer",)]
            return
        handler = self.specs[name]["handlers"][kind]
        message = entry["message"]
        end = run_handler(handler, self.rows_of(service), message)
        reads, writes = names_read(handler, self.rows_of(service), message)
        needs = {("entry", kind, place)}
        for word in reads:
            if (word, message[1]) in service["setters"]:
                needs.add(service["setters"][(word, message[1])])
        hand["needs"] = needs
        hand["writes"] = writes
        posts = []
        for j, sent in enumerate(end[2] if end[0] == "done" else ()):
            made = {"id": entry["id"] + (j,), "message": sent, "needs": needs if posting == "before" else None}
            posts.append(("post", sent[0], made))
        todo = [("answer",)] if answering == "ahead" else []
        todo += posts if posting == "before" else []
        todo += [("commit",)]
        todo += posts if posting == "after" else []
        todo += [("note",)] if keeping == "late" else []
        todo += [("answer",)] if answering == "behind" else []
        hand["todo"] = todo

    def do_commit(self, name):
        service = self.services[name]
        hand = service["hand"]
        ident, message = hand["entry"]["id"], hand["entry"]["message"]
        posting, keeping, _, _ = self.specs[name]["way"]
        fact = ("commit", name, service["commits"])
        self.facts[fact] = hand["needs"]
        hand["commit"] = fact
        end = run_handler(self.specs[name]["handlers"][hand["kind"]], self.rows_of(service), message)
        sends = ()
        if end[0] == "done":
            _, rows, sends = end
            service["rows"] = dict(rows)
            for word in hand["writes"]:
                row = ("row", name, word, message[1], service["commits"])
                self.facts[row] = {fact}
                service["setters"][(word, message[1])] = row
        if posting == "outbox":
            for j, sent in enumerate(sends):
                made = {"id": ident + (j,), "message": sent, "needs": {fact}}
                service["outs"][sent[0]]["box"].append(made)
        if keeping == "inbox":
            service["inbox"].append(ident)
        commits, most = service["book"].get(ident, (0, 0))
        service["book"][ident] = (commits + 1, max(most, len(sends)))
        service["commits"] += 1
        self.finish_next(name)

    def publish(self, name, kind):
        entry = dict(self.published(("post", name, kind)))
        if self.specs[name]["way"][0] == "after":
            entry["needs"] = {self.services[name]["hand"]["commit"]}
        self.append(kind, entry)

    def do_post(self, name, kind):
        self.publish(name, kind)
        self.finish_next(name)

    def do_note(self, name):
        service = self.services[name]
        service["inbox"].append(service["hand"]["entry"]["id"])
        self.finish_next(name)

    def do_answer(self, kind):
        name = self.owner[kind]
        self.positions[kind] = self.services[name]["hand"]["place"] + 1
        self.finish_next(name)

    def do_relay(self, name, kind):
        self.publish(name, kind)
        out = self.services[name]["outs"][kind]
        out["held"] = out["box"][0] if self.specs[name]["way"][3] == "behind" else None

    def do_mark(self, name, kind):
        out = self.services[name]["outs"][kind]
        first = out["box"].pop(0)
        out["held"] = None if self.specs[name]["way"][3] == "behind" else first

    def do_lose(self, name, kind):
        self.publish(name, kind)
        self.services[name]["losses"] -= 1

    def do_crash(self, name):
        service = self.services[name]
        service["hand"] = None
        for out in service["outs"].values():
            out["held"] = None
        service["crashes"] -= 1

    def tree(self):
        """The state as a tree by point 23."""
        logs = tuple((tuple(map(pair, self.logs[kind])), self.positions[kind]) for kind in self.kinds)
        return (logs, tuple(self.service_tree(name) for name in self.names))

    def service_tree(self, name):
        service = self.services[name]
        book = tuple(sorted((ident, commits, most) for ident, (commits, most) in service["book"].items()))
        outs = []
        for out in service["outs"].values():
            outs += [tuple(map(pair, out["box"])), None if out["held"] is None else pair(out["held"])]
        hand = None
        if service["hand"]:
            todo = [deed if len(deed) == 1 else (*deed[:2], *pair(deed[2])) for deed in service["hand"]["todo"]]
            hand = (service["hand"]["kind"], service["hand"]["place"], tuple(todo))
        inbox = tuple(sorted(service["inbox"]))
        return (self.rows_of(service), inbox, book, tuple(outs), hand, service["crashes"], service["losses"])


def pair(entry):
    return (entry["id"], entry["message"])


def played(spec, steps):
    """The system of a specification after these steps."""
    plain = Plain(spec)
    for step in steps:
        assert plain.can(step), step
        plain.do(step)
    return plain
