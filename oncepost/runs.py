"""Runs of handlers, without a look at the forms of what is passed."""

from oncepost.forms import BOUND


def combined(sign, left, right):
    """The two values added, subtracted or multiplied, held within the bounds."""
    if sign == "+":
        result = left + right
    elif sign == "-":
        result = left - right
    else:
        result = left * right
    return max(-BOUND, min(BOUND, result))


class Run:
    """The run of a handler on a message: the rows as they are now, what was sent, read and set."""

    def __init__(self, rows, message):
        self.key = message[1]
        self.body = message[2]
        self.table = {place: value for place, value in rows}
        self.sends = []
        self.failed = False
        # Dicts for their keys: the places that were read before the run set them, and those that it set.
        self.reads = {}
        self.writes = {}

    def rows(self):
        """The rows as a tuple."""
        places = sorted(self.table)
        return tuple([(place, self.table[place]) for place in places if self.table[place] != 0])

    def told(self):
        """The messages that it sends, a tuple: none if it failed."""
        return () if self.failed else tuple(self.sends)

    def read(self, place):
        """The value of a row, which counts as read if the run has not set it itself."""
        if place not in self.writes:
            self.reads[place] = True
        return self.table.get(place, 0)

    def worth(self, expression):
        """The value of an expression."""
        head = expression[0]
        if head == "value":
            return expression[1]
        if head == "body":
            return self.body
        if head == "row":
            return self.read((expression[1], self.key))
        return combined(head, self.worth(expression[1]), self.worth(expression[2]))

    def holds(self, condition):
        """Whether a condition holds."""
        head = condition[0]
        if head == "<":
            return self.worth(condition[1]) < self.worth(condition[2])
        if head == "=":
            return self.worth(condition[1]) == self.worth(condition[2])
        # A list, since all parts are evaluated, whatever the first one tells.
        parts = [self.holds(part) for part in condition[1:]]
        if head == "not":
            return not parts[0]
        if head == "and":
            return all(parts)
        return any(parts)

    def do_all(self, deeds):
        """Does the deeds in order; whether none of them failed."""
        for deed in deeds:
            if not self.do_one(deed):
                return False
        return True

    def do_one(self, deed):
        """Does a deed; whether it did not fail."""
        head = deed[0]
        if head == "fail":
            return False
        if head == "if":
            return self.do_all(deed[2] if self.holds(deed[1]) else deed[3])
        if head == "set":
            place = (deed[1], self.key)
            self.table[place] = self.worth(deed[2])
            self.writes[place] = True
        else:
            key = self.key if deed[2] is None else deed[2]
            self.sends.append((deed[1], key, self.worth(deed[3])))
        return True


def run_of(handler, rows, message):
    """The run of a handler on rows and a message, come to its end."""
    run = Run(rows, message)
    run.failed = not run.do_all(handler)
    return run
