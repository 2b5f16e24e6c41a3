"""The order of the steps of a schedule on their lines, and its whole cuts.

Steps are told by their indexes in the schedule, lines by their places among its lines. Numbers are a tuple with a
number for each line: so many of its steps.
"""


class Order:
    """Which steps of a schedule are on which of its lines, and so before one another."""

    def __init__(self, lines_of_steps):
        self.lines = tuple(sorted(set([line for lines in lines_of_steps for line in lines])))
        places = {line: at for at, line in enumerate(self.lines)}
        self.lanes = [tuple([places[line] for line in lines]) for lines in lines_of_steps]
        # For each line its steps.
        self.tracks = [[] for _ in self.lines]
        for step, lanes in enumerate(self.lanes):
            for lane in lanes:
                self.tracks[lane].append(step)
        self.clocks = self.clocks_of_steps()

    def clocks_of_steps(self):
        """For each step how many steps of each line are before it or are it."""
        found = []
        nothing = self.nothing()
        latest = [nothing for _ in self.lines]
        for lanes in self.lanes:
            numbers = list(nothing)
            for lane in lanes:
                numbers = [max(one, other) for one, other in zip(numbers, latest[lane])]
            for lane in lanes:
                # The lines of a step all go up by this one step.
                numbers[lane] += 1
            clock = tuple(numbers)
            found.append(clock)
            for lane in lanes:
                latest[lane] = clock
        return found

    def nothing(self):
        """The numbers of the cut without steps."""
        return tuple([0 for _ in self.lines])

    def everything(self):
        """The numbers of the cut with all steps."""
        return tuple([len(track) for track in self.tracks])

    def is_before(self, one, other):
        """Whether a step is before another one."""
        lane = self.lanes[one][0]
        return one != other and self.clocks[one][lane] <= self.clocks[other][lane]

    def levels(self):
        """For each step how many levels are before its own."""
        found = []
        highest = [0 for _ in self.lines]
        for lanes in self.lanes:
            level = max([highest[lane] for lane in lanes])
            found.append(level)
            for lane in lanes:
                highest[lane] = level + 1
        return found

    def ready(self, numbers):
        """The steps that can come after a whole cut."""
        found = []
        for lane, track in enumerate(self.tracks):
            if numbers[lane] == len(track):
                continue
            step = track[numbers[lane]]
            # Each step is told by the first of its lines alone.
            if self.lanes[step][0] == lane and self.comes_next(step, numbers):
                found.append(step)
        return found

    def comes_next(self, step, numbers):
        """Whether a step that is not in a whole cut is the next one on all its lines."""
        return all([self.tracks[lane][numbers[lane]] == step for lane in self.lanes[step]])

    def risen(self, numbers, step):
        """The numbers of a whole cut with a step that can come after it."""
        found = list(numbers)
        for lane in self.lanes[step]:
            found[lane] += 1
        return tuple(found)

    def parted(self, numbers):
        """The steps of the greatest whole cut that is nowhere above the numbers, and the other steps."""
        inside = []
        outside = []
        found = list(self.nothing())
        passed = list(self.nothing())
        for step, lanes in enumerate(self.lanes):
            # It is in the cut if the steps before it on its lines are, and the numbers leave room for it.
            if all([found[lane] == passed[lane] and found[lane] < numbers[lane] for lane in lanes]):
                inside.append(step)
                for lane in lanes:
                    found[lane] += 1
            else:
                outside.append(step)
            for lane in lanes:
                passed[lane] += 1
        return inside, outside

    def numbers_of(self, steps):
        """How many of these steps are on each line."""
        found = list(self.nothing())
        for step in steps:
            for lane in self.lanes[step]:
                found[lane] += 1
        return tuple(found)

    def layers(self, most):
        """The whole cuts, in a list for each number of steps, ascending; None if there are more than so many."""
        layer = [self.nothing()]
        found = []
        many = 1
        while len(layer) > 0:
            found.append(layer)
            above = {}
            for numbers in layer:
                for step in self.ready(numbers):
                    above[self.risen(numbers, step)] = True
                # Asked at each cut, since a layer may be very wide.
                if many + len(above) > most:
                    return None
            many += len(above)
            layer = sorted(above)
        return found
