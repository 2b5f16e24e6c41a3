"""Schedules: their order, their cuts, and tests of what alike schedules pass."""

from oncepost.errors import InvalidCut, InvalidTest, NotPlayed, OutOfRange, TooMany
from oncepost.forms import is_number, is_tuple_of
from oncepost.histories import History
from oncepost.moves import can_do, state_after
from oncepost.orders import Order
from oncepost.probes import is_met, is_probe

MOST_CUTS = 2000


class Schedule:
    """Steps of a system that are possible one after the other from the beginning."""

    def __init__(self, system, *steps):
        history = History(system.plan, system.begin)
        for at, step in enumerate(steps):
            if not can_do(system.plan, history.state, step):
                raise NotPlayed(at)
            history.do(step)
        self.system = system
        self.steps = steps
        self.end = history.state
        self.needs = history.needs
        self.order = Order([system.plan.step_lines[step] for step in steps])
        self.lines = self.order.lines

    def __eq__(self, other):
        return isinstance(other, Schedule) and self.system == other.system and self.steps == other.steps

    def __len__(self):
        return len(self.steps)

    def is_whole(self):
        """Whether no step is possible after it."""
        return len(self.system.possible(self.end)) == 0

    def normal(self):
        """The steps of the least alike schedule."""
        ranks = [self.system.plan.ranks[step] for step in self.steps]
        found = []
        numbers = self.order.nothing()
        while len(found) < len(self.steps):
            # Of several steps that can come next no two are the same step, since those share lines.
            least = min(self.order.ready(numbers), key=lambda at: ranks[at])
            found.append(self.steps[least])
            numbers = self.order.risen(numbers, least)
        return tuple(found)

    def levels(self):
        """The steps in levels, each step in the first one after those of all steps before it."""
        places = self.order.levels()
        ranks = self.system.plan.ranks
        found = [[] for _ in range(max(places, default=-1) + 1)]
        for at, step in enumerate(self.steps):
            found[places[at]].append(step)
        return tuple([tuple(sorted(level, key=lambda member: ranks[member])) for level in found])

    def many(self):
        """The number of alike schedules."""
        counts = {self.order.nothing(): 1}
        for layer in self.whole_cuts():
            for numbers in layer:
                for step in self.order.ready(numbers):
                    above = self.order.risen(numbers, step)
                    counts[above] = counts.get(above, 0) + counts[numbers]
        return counts[self.order.everything()]

    def is_before(self, i, j):
        """Whether step i is before step j."""
        self.check_index(i)
        self.check_index(j)
        return self.order.is_before(i, j)

    def clock(self, i):
        """How many steps of each line are before step i or are it, for the lines that have such steps."""
        self.check_index(i)
        return tuple([(line, many) for line, many in zip(self.lines, self.order.clocks[i]) if many > 0])

    def check_index(self, value):
        """Raises an error for any value that is not the index of a step."""
        if not is_number(value) or not 0 <= value < len(self.steps):
            raise OutOfRange(value)

    def is_alike(self, other):
        """Whether another schedule has the same steps in the same order on every line."""
        return self.steps_on_lines() == other.steps_on_lines()

    def steps_on_lines(self):
        """For each line its steps in order, in a dict."""
        return {line: [self.steps[at] for at in track] for line, track in zip(self.lines, self.order.tracks)}

    def exchanges(self, other):
        """Indexes of neighbours to exchange one after the other, up to another schedule; None if it is not alike."""
        if not self.is_alike(other):
            return None
        places = {step: [] for step in self.steps}
        for at, step in enumerate(other.steps):
            places[step].append(at)
        # The same steps keep their order, since they share lines: the first goes to the first place, and so on.
        waiting = [places[step].pop(0) for step in self.steps]
        found = []
        for place in range(len(self.steps)):
            away = waiting.index(place)
            found.extend([place + away - 1 - back for back in range(away)])
            waiting.pop(away)
        return found

    def cuts(self):
        """All whole cuts, by their number of steps, then ascending."""
        for layer in self.whole_cuts():
            for numbers in layer:
                yield self.cut_of(numbers)

    def whole_cuts(self):
        """The numbers of the whole cuts, in a list for each number of steps."""
        layers = self.order.layers(MOST_CUTS)
        if layers is None:
            raise TooMany(MOST_CUTS)
        return layers

    def cut_of(self, numbers):
        """The cut with these numbers."""
        return tuple(zip(self.lines, numbers))

    def is_form(self, value):
        """Whether any value is a cut, whole or not."""
        if not is_tuple_of(value, len(self.lines)) or not all([is_tuple_of(part, 2) for part in value]):
            return False
        most = self.order.everything()
        return all([
            part[0] == line and is_number(part[1]) and 0 <= part[1] <= many
            for part, line, many in zip(value, self.lines, most)
        ])

    def parted(self, cut):
        """The steps of the greatest whole cut that is nowhere above a cut, and the other steps, by their indexes."""
        return self.order.parted([number for _, number in cut])

    def is_cut(self, value):
        """Whether any value is a whole cut."""
        return self.is_form(value) and self.below(value) == value

    def below(self, cut):
        """The greatest whole cut that is nowhere above a cut."""
        if not self.is_form(cut):
            raise InvalidCut(cut)
        inside, _ = self.parted(cut)
        return self.cut_of(self.order.numbers_of(inside))

    def state_at(self, cut):
        """The state after the steps of a whole cut."""
        if not self.is_cut(cut):
            raise InvalidCut(cut)
        inside, _ = self.parted(cut)
        steps = [self.steps[at] for at in inside]
        return self.system.play(*steps)

    def through(self, cut):
        """An alike schedule that begins with the steps of a whole cut."""
        if not self.is_cut(cut):
            raise InvalidCut(cut)
        inside, outside = self.parted(cut)
        steps = [self.steps[at] for at in inside + outside]
        return Schedule(self.system, *steps)

    def possibly(self, test):
        """The first whole cut in whose state a test holds, or None."""
        plan = self.checked_plan(test)
        layers = self.whole_cuts()
        states = {self.order.nothing(): self.system.begin}
        for layer in layers:
            for numbers in layer:
                if is_met(plan, states[numbers], test):
                    return self.cut_of(numbers)
                for step in self.order.ready(numbers):
                    above = self.order.risen(numbers, step)
                    if above not in states:
                        states[above] = state_after(plan, states[numbers], self.steps[step])
        return None

    def surely(self, test):
        """None if a test holds at some time in every alike schedule, otherwise one in which it never does."""
        plan = self.checked_plan(test)
        layers = self.whole_cuts()
        states = {self.order.nothing(): self.system.begin}
        # From each whole cut that is come to without the test: the cut before it, and the step between them.
        ways = {}
        passed = None
        for layer in layers:
            for numbers in layer:
                if numbers not in states or is_met(plan, states[numbers], test):
                    continue
                passed = numbers
                for step in self.order.ready(numbers):
                    above = self.order.risen(numbers, step)
                    states[above] = state_after(plan, states[numbers], self.steps[step])
                    ways[above] = (numbers, step)
        if passed != self.order.everything():
            return None
        return self.schedule_by(ways, passed)

    def schedule_by(self, ways, numbers):
        """The schedule that leads to the cut with these numbers, each time by the cut before and the step."""
        steps = []
        while numbers in ways:
            numbers, step = ways[numbers]
            steps.append(self.steps[step])
        steps = steps[::-1]
        return Schedule(self.system, *steps)

    def checked_plan(self, test):
        """The plan of the system; an error for any value that is no test of its states."""
        if not is_probe(self.system.plan, test):
            raise InvalidTest(test)
        return self.system.plan
