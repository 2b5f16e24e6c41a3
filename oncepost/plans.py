"""Plans: what the steps of a system ask for again and again, told once."""

HEADS = ("take", "commit", "post", "note", "answer", "relay", "mark", "lose", "crash")


class Plan:
    """The places of kinds and services, who handles and who sends what, and the steps with their lines."""

    def __init__(self, kinds, services):
        self.kinds = kinds
        self.services = services
        self.kind_places = {kind: at for at, kind in enumerate(kinds)}
        self.service_places = {service.name: at for at, service in enumerate(services)}
        self.owners = {kind: service for service in services for kind in service.kinds}
        self.sent_kinds = {service.name: kinds_sent_by(kinds, service) for service in services}
        self.all_steps = steps_of(self)
        self.ranks = {step: at for at, step in enumerate(self.all_steps)}
        self.step_lines = {step: lines_of_step(self, step) for step in self.all_steps}
        # Sets of steps are told by masks: the bit of a step is 1 << its place in all_steps.
        self.line_masks = masks_of_lines(self)
        self.near_masks = [mask_near(self, step) for step in self.all_steps]

    def service_named(self, name):
        """The service with this name."""
        return self.services[self.service_places[name]]

    def has_step(self, value):
        """Whether any value is a step of the system."""
        # The form is asked first, since what is no tuple of strings may not be a key of a dict.
        if not isinstance(value, tuple) or not all([isinstance(part, str) for part in value]):
            return False
        return value in self.ranks

    def places_in(self, mask):
        """The places in all_steps of the steps of a mask, ascending."""
        return [at for at in range(len(self.all_steps)) if mask >> at & 1]

    def steps_in(self, mask):
        """The steps of a mask, a tuple in order."""
        return tuple([self.all_steps[at] for at in self.places_in(mask)])


def kinds_sent_by(kinds, service):
    """The kinds that a service can send, in the order of the system."""
    return tuple([kind for kind in kinds if kind in service.sent])


def steps_of(plan):
    """All steps of a system, in order."""
    found = []
    for head in HEADS:
        if head in ("take", "answer"):
            found.extend([(head, kind) for kind in plan.kinds if kind in plan.owners])
            continue
        for service in plan.services:
            if not is_of_way(head, service.way):
                continue
            if head in ("commit", "note", "crash"):
                found.append((head, service.name))
            else:
                found.extend([(head, service.name, kind) for kind in plan.sent_kinds[service.name]])
    return tuple(found)


def is_of_way(head, way):
    """Whether services of this way have steps that begin so."""
    posting, keeping, _, _ = way
    if head == "note":
        return keeping == "late"
    if head == "post":
        return posting != "outbox"
    if head in ("relay", "mark"):
        return posting == "outbox"
    return True


def lines_of_step(plan, step):
    """The lines of a step of the system, ascending."""
    head = step[0]
    if head in ("take", "answer"):
        return (("hand", plan.owners[step[1]].name), ("log", step[1]))
    name = step[1]
    outbox = plan.service_named(name).way[0] == "outbox"
    hand = ("hand", name)
    if head == "note":
        return (hand,)
    if head in ("commit", "crash"):
        kinds = sorted(plan.sent_kinds[name]) if outbox else []
        return (hand, *[("out", name, kind) for kind in kinds])
    log = ("log", step[2])
    out = ("out", name, step[2])
    if head == "mark":
        return (out,)
    if head == "relay":
        return (log, out)
    if head == "post":
        return (hand, log)
    loss = ("loss", name)
    return (log, loss, out) if outbox else (hand, log, loss)


def masks_of_lines(plan):
    """For each line of the steps the mask of the steps with it."""
    found = {}
    for at, step in enumerate(plan.all_steps):
        for line in plan.step_lines[step]:
            found[line] = found.get(line, 0) | 1 << at
    return found


def mask_near(plan, step):
    """The mask of the steps that are not apart from a step, itself among them."""
    mask = 0
    for line in plan.step_lines[step]:
        mask = mask | plan.line_masks[line]
    return mask
