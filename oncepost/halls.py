"""Halls: systems that run, with steps that can be undone and done again, trials, and logs of what was done."""

from oncepost.errors import InvalidState, NotPlayed, OutOfRange
from oncepost.forms import is_number
from oncepost.moves import can_do, state_after
from oncepost.recovery import recovered_from
from oncepost.writing import blank_writing, text_names, written


class Hall:
    """A system that runs, by changes, each of which does some steps."""

    def __init__(self, system):
        self.system = system
        self.state = system.begin
        self.schedule = ()
        self.undone = 0
        self.depth = 0
        # What a logged hall has written; nothing in a plain one.
        self.record = None
        # The pages before each change that can be undone, the last one last, and those after each one that can be
        # redone, the next one last.
        self.past = []
        self.future = []

    def recorded(self, state, record, step):
        """What is recorded after one step more, which is possible in the state."""
        return record

    def page(self):
        """What undo and redo bring back."""
        return (self.state, self.schedule, self.record)

    def turn_to(self, page):
        """Brings back what was on a page."""
        self.state, self.schedule, self.record = page
        self.undone = len(self.future)

    def do(self, *steps):
        """Does steps as one change, behind which nothing can be redone."""
        state = self.state
        record = self.record
        for at, step in enumerate(steps):
            if not can_do(self.system.plan, state, step):
                raise NotPlayed(at)
            record = self.recorded(state, record, step)
            state = state_after(self.system.plan, state, step)
        self.past.append(self.page())
        self.future = []
        self.turn_to((state, self.schedule + steps, record))

    def undo(self, count=1):
        """Undoes so many changes."""
        check_count(count, len(self.past))
        for _ in range(count):
            self.future.append(self.page())
            self.turn_to(self.past.pop())

    def redo(self, count=1):
        """Does so many undone changes again."""
        check_count(count, len(self.future))
        for _ in range(count):
            self.past.append(self.page())
            self.turn_to(self.future.pop())

    def attempt(self, action):
        """Calls action with the hall; what it did is taken back if an exception leaves it."""
        return self.tried(action, True)

    def explore(self, action):
        """Calls action with the hall; what it did is taken back."""
        return self.tried(action, None)

    def tried(self, action, stays):
        """Calls action with the hall, and takes back what it did if an exception leaves it or stays is None."""
        state, schedule, record, undone = self.state, self.schedule, self.record, self.undone
        past, future, depth = list(self.past), list(self.future), self.depth
        left = None
        self.depth = depth + 1
        try:
            told = action(self)
            left = stays
        finally:
            self.depth = depth
            if left is None:
                self.state, self.schedule, self.record, self.undone = state, schedule, record, undone
                self.past, self.future = past, future
        return told


def check_count(value, most):
    """Raises an error for any value that is not an integer from 0 to this one."""
    if not is_number(value) or not 0 <= value <= most:
        raise OutOfRange(value)


class LoggedHall(Hall):
    """A hall that writes logs: a text for each kind and for each service."""

    def __init__(self, system):
        Hall.__init__(self, system)
        self.record = blank_writing(system.plan)
        self.names = text_names(system.plan)

    def recorded(self, state, record, step):
        """What is written after one step more, which is possible in the state."""
        return written(self.system.plan, state, record, step)

    @property
    def texts(self):
        """The texts by their names, a new dict."""
        return {name: text for name, text in zip(self.names, self.record[0])}

    @staticmethod
    def recovered(system, texts):
        """The state that any texts tell, one for each kind and service, and how many lines of each were taken."""
        names = text_names(system.plan)
        if not isinstance(texts, dict) or len(texts) != len(names) or not all([name in texts for name in names]):
            raise InvalidState(texts)
        if not all([isinstance(texts[name], str) for name in names]):
            raise InvalidState(texts)
        return recovered_from(system, texts)
