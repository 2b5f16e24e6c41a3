"""Judgements: what is so at no end, what it takes that it is, and other ways that mend it."""

from oncepost.errors import InvalidCount, InvalidWay, NoService, NoWord
from oncepost.papers import paper_of
from oncepost.searches import graph_of
from oncepost.spending import least_of, spent_in
from oncepost.ways import is_way
from oncepost.words import is_so_by

MOST_CHOICES = 40


class Words:
    """The words of judgements."""

    ALL = ("twice", "lost", "made", "unlike", "again")


def check_word(value):
    """Raises an error for any value that is none of the words."""
    if value not in Words.ALL:
        raise NoWord(value)


def is_so(system, state, word):
    """Whether an end is so by a word."""
    check_word(word)
    return is_so_by(system, state, word)


def numbers_so(system, graph, words):
    """The numbers of the ends that are so by one of the words."""
    found = []
    for number in graph.last_numbers():
        state = graph.states[number]
        if any([is_so_by(system, state, word) for word in words]):
            found.append(number)
    return found


def judge(system, word):
    """("holds", paper) with a short paper if no end is so, otherwise ("breaks", the least schedule to one that is)."""
    check_word(word)
    graph = graph_of(system)
    numbers = numbers_so(system, graph, [word])
    if len(numbers) == 0:
        return ("holds", paper_of(system))
    return ("breaks", graph.steps_to(numbers[0]))


def price(system, word):
    """The least budgets with which some end is so, ascending."""
    check_word(word)
    graph = graph_of(system)
    return least_of([spent_in(system, graph.states[number]) for number in numbers_so(system, graph, [word])])


def mend(system, words, choices):
    """The first choice of ways with which no end is so by any of the words, a dict, or None."""
    for word in words:
        check_word(word)
    check_choices(system, choices)
    names = sorted(choices)
    for chosen in all_choices([choices[name] for name in names]):
        ways = {name: way for name, way in zip(names, chosen)}
        changed = system.with_ways(ways)
        if len(numbers_so(changed, graph_of(changed), words)) == 0:
            return ways
    return None


def check_choices(system, choices):
    """Raises an error for what are no services, no ways, or no ways to choose or too many."""
    names = [service.name for service in system.services]
    for name in choices:
        if name not in names:
            raise NoService(name)
    for name in sorted(choices):
        for way in choices[name]:
            if not is_way(way):
                raise InvalidWay(way)
    many = 1
    for name in choices:
        many = many * len(choices[name])
    if not 1 <= many <= MOST_CHOICES:
        raise InvalidCount(choices)


def all_choices(lists):
    """All ways to choose one of each list, in order, the last one changing fastest."""
    found = [()]
    for members in lists:
        found = [(*chosen, member) for chosen in found for member in members]
    return found
