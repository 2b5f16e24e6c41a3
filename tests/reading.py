"""A plain reading of points 42 and 43: what bars a step, and which short papers are accepted."""

from tests.plain import Plain


class Reading:
    """The steps of a specification with their lines, and what bars them in states, which are trees."""

    def __init__(self, spec, system):
        self.spec = spec
        self.system = system
        self.plain = Plain(spec)
        self.steps = self.plain.all_steps()
        self.lines = {step: self.plain.lines(step) for step in self.steps}
        # For each line its steps, and for each step those that are not apart from it.
        every = set().union(*self.lines.values())
        self.with_line = {line: tuple(step for step in self.steps if line in self.lines[step]) for line in every}
        self.near = {
            step: tuple(other for other in self.steps if self.lines[step] & self.lines[other]) for step in self.steps
        }

    def own(self, state, name):
        parts = dict(zip(self.plain.names, state[1]))
        return dict(zip(("rows", "inbox", "book", "outs", "hand", "crashes", "losses"), parts[name]))

    def bars(self, state, step):
        """The lines that bar a step that is not possible, each with the steps that it asks for, () if it is spent."""
        word = step[0]
        if word == "take":
            name = self.plain.owner[step[1]]
            entries, position = dict(zip(self.plain.kinds, state[0]))[step[1]]
            found = []
            if self.own(state, name)["hand"] is not None:
                found.append(("hand", name))
            if not len(entries) > position:
                found.append(("log", step[1]))
            return [(line, self.with_line[line]) for line in found]
        if word == "answer":
            line = ("hand", self.plain.owner[step[1]])
            return [(line, self.with_line[line])]
        name = step[1]
        own = self.own(state, name)
        if word in ("commit", "post", "note"):
            return [(("hand", name), self.with_line[("hand", name)])]
        if word in ("relay", "mark"):
            line = ("out", name, step[2])
            return [(line, self.with_line[line])]
        if word == "lose":
            return self.bars_of_lose(state, own, step)
        if own["crashes"] == 0:
            return [(("hand", name), ())]
        assert own["hand"] is None and not any(own["outs"][1::2])
        return [(("hand", name), self.near[step])]

    def bars_of_lose(self, state, own, step):
        _, name, kind = step
        outbox = self.plain.specs[name]["way"][0] == "outbox"
        found = []
        if own["losses"] == 0:
            found.append((("loss", name), ()))
        like = ("relay" if outbox else "post", name, kind)
        if like not in self.system.possible(state):
            line = ("out", name, kind) if outbox else ("hand", name)
            found.append((line, self.with_line[line]))
        return sorted(found)

    def accepts(self, paper):
        """Whether a short paper, a list of (state, steps, lines) with states and steps of the system, holds to 42."""
        states = [state for state, _, _ in paper]
        if len(set(states)) < len(states) or not paper or states[0] != self.system.begin:
            return False
        earlier = set()
        for number, (state, steps, lines) in enumerate(paper):
            if number > 0 and state not in earlier:
                return False
            possible = self.system.possible(state)
            done = [step for step in steps if step in possible]
            afters = [self.system.after(state, step) for step in done]
            earlier |= set(afters)
            if not set(afters) <= set(states) or (possible and not done):
                return False
            if [step for step in self.steps if step in steps] != list(steps) or len(lines) != len(steps):
                return False
            if not all(self.holds(state, possible, steps, step, line) for step, line in zip(steps, lines)):
                return False
        return True

    def holds(self, state, possible, steps, step, line):
        """Whether a step of an entry with its line holds to (c) and (d)."""
        if step in possible:
            return line is None and set(self.near[step]) <= set(steps)
        return any(line == told and set(asked) <= set(steps) for told, asked in self.bars(state, step))
