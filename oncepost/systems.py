"""Services, and the systems that they make together."""

from oncepost.errors import InvalidCount, InvalidService, InvalidSystem, InvalidWay, NoService, NotPlayed, NoWord
from oncepost.forms import is_list, is_message, is_number, is_tuple_of, is_word
from oncepost.handlers import footprint, is_handler, most_sends
from oncepost.moves import can_do, is_possible, state_after
from oncepost.plans import Plan
from oncepost.states import first_state
from oncepost.ways import is_way

MOST_HANDLERS = 3
MOST_FAULTS = 3
MOST_KINDS = 6
MOST_SERVICES = 4
MOST_SENDS = 3
MOST_COMMANDS = 4


class Service:
    """A service: its handlers, its way and its budgets."""

    # The way that is the default is Ways.SAFE.
    def __init__(self, name, handlers, way=("outbox", "inbox", "behind", "behind"), *, crashes=0, losses=0):
        if not is_word(name):
            raise InvalidService("name")
        if not is_handlers(handlers):
            raise InvalidService("handlers")
        if not is_way(way):
            raise InvalidService("way")
        if not is_budget(crashes):
            raise InvalidService("crashes")
        if not is_budget(losses):
            raise InvalidService("losses")
        self.name = name
        self.kinds = tuple(sorted(handlers))
        self.way = way
        self.crashes = crashes
        self.losses = losses
        self.handlers = tuple([(kind, handlers[kind]) for kind in self.kinds])
        self.sent = tuple([kind for _, handler in self.handlers for kind in footprint(handler)[2]])

    def __eq__(self, other):
        return (
            isinstance(other, Service)
            and self.name == other.name
            and self.handlers == other.handlers
            and self.way == other.way
            and self.crashes == other.crashes
            and self.losses == other.losses
        )

    def handler_for(self, kind):
        """The handler for a kind."""
        for handled, handler in self.handlers:
            if handled == kind:
                return handler
        raise NoWord(kind)

    def changed(self, way, budgets):
        """The service with another way and other budgets."""
        crashes, losses = budgets
        handlers = {kind: handler for kind, handler in self.handlers}
        return Service(self.name, handlers, way, crashes=crashes, losses=losses)


def is_handlers(value):
    """Whether any value is a dict from one to three kinds to handlers."""
    if not isinstance(value, dict) or not 1 <= len(value) <= MOST_HANDLERS:
        return False
    return all([is_word(kind) and is_handler(value[kind]) for kind in value])


def is_budget(value):
    """Whether any value is a number of faults that a service may meet."""
    return is_number(value) and 0 <= value <= MOST_FAULTS


class System:
    """A system: its kinds in their order, its services by their names, and the commands."""

    def __init__(self, kinds, services, commands=()):
        reason = fault_of(kinds, services, commands)
        if reason is not None:
            raise InvalidSystem(reason)
        self.kinds = tuple(kinds)
        self.services = tuple(sorted(services, key=lambda service: service.name))
        self.commands = tuple(commands)
        self.plan = Plan(self.kinds, self.services)
        self.world = tuple([kind for kind in self.kinds if kind not in self.plan.owners])
        self.begin = first_state(self.plan, self.commands)
        self.all_steps = self.plan.all_steps

    def __eq__(self, other):
        return (
            isinstance(other, System)
            and self.kinds == other.kinds
            and self.services == other.services
            and self.commands == other.commands
        )

    def service_of(self, kind):
        """The name of the service that handles a kind, None for a kind of the world."""
        if not isinstance(kind, str) or kind not in self.plan.kind_places:
            raise NoWord(kind)
        return self.plan.owners[kind].name if kind in self.plan.owners else None

    def possible(self, state):
        """The steps that are possible in a state, a list in order."""
        return [step for step in self.all_steps if is_possible(self.plan, state, step)]

    def after(self, state, step):
        """The state after a step."""
        if not can_do(self.plan, state, step):
            raise NotPlayed(0)
        return state_after(self.plan, state, step)

    def play(self, *steps):
        """The state after a schedule."""
        state = self.begin
        for at, step in enumerate(steps):
            if not can_do(self.plan, state, step):
                raise NotPlayed(at)
            state = state_after(self.plan, state, step)
        return state

    def lines_of(self, step):
        """The lines of a step of the system, ascending."""
        if not self.plan.has_step(step):
            raise NoWord(step)
        return self.plan.step_lines[step]

    def apart(self, one, other):
        """Whether two steps of the system have no line in common."""
        lines = self.lines_of(one)
        return not any([line in lines for line in self.lines_of(other)])

    def with_budgets(self, budgets):
        """The system with these budgets, a (crashes, losses) for each service."""
        if not is_budgets(budgets, len(self.services)):
            raise InvalidCount(budgets)
        services = [service.changed(service.way, pair) for service, pair in zip(self.services, budgets)]
        return System(self.kinds, services, self.commands)

    def with_ways(self, ways):
        """The system with other ways for the services that are named."""
        names = [service.name for service in self.services]
        for name in ways:
            if name not in names:
                raise NoService(name)
        for name in names:
            if name in ways and not is_way(ways[name]):
                raise InvalidWay(ways[name])
        services = []
        for service in self.services:
            way = ways.get(service.name, service.way)
            services.append(service.changed(way, (service.crashes, service.losses)))
        return System(self.kinds, services, self.commands)


def is_budgets(value, many):
    """Whether any value is a list of so many pairs of budgets."""
    if not is_list(value) or len(value) != many:
        return False
    return all([is_tuple_of(pair, 2) and is_budget(pair[0]) and is_budget(pair[1]) for pair in value])


def fault_of(kinds, services, commands):
    """The first reason for which these make no system, None if they make one."""
    if not is_kinds(kinds):
        return "kinds"
    if not is_services(services):
        return "services"
    if not are_different([service.name for service in services]):
        return "names"
    handled = [kind for service in services for kind in service.kinds]
    if not are_different(handled) or not all([kind in kinds for kind in handled]):
        return "handled"
    handlers = [pair for service in services for pair in service.handlers]
    if not all([sends_later_kinds(kinds, kind, handler) for kind, handler in handlers]):
        return "sends"
    if not all([most_sends(handler) <= MOST_SENDS for _, handler in handlers]):
        return "runs"
    if not is_commands(commands, kinds):
        return "commands"
    return None


def are_different(words):
    """Whether no word is twice in a list."""
    return len(set(words)) == len(words)


def is_kinds(value):
    """Whether any value is a list of one to six different words."""
    if not is_list(value) or not 1 <= len(value) <= MOST_KINDS:
        return False
    return all([is_word(kind) for kind in value]) and are_different(value)


def is_services(value):
    """Whether any value is a list of one to four services."""
    if not is_list(value) or not 1 <= len(value) <= MOST_SERVICES:
        return False
    return all([isinstance(service, Service) for service in value])


def sends_later_kinds(kinds, kind, handler):
    """Whether a handler for a kind sends only kinds that come after it."""
    later = kinds[kinds.index(kind) + 1:]
    return all([sent in later for sent in footprint(handler)[2]])


def is_commands(value, kinds):
    """Whether any value is a list of up to four messages of these kinds."""
    if not is_list(value) or len(value) > MOST_COMMANDS:
        return False
    return all([is_message(command) and command[0] in kinds for command in value])
