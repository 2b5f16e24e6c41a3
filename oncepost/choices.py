"""The steps that a short paper goes on with in a state."""

from oncepost.barring import bars_of
from oncepost.moves import is_possible


def chosen_at(plan, state):
    """Steps that hold to the rules of short papers, and their bars: two tuples, with as few possible steps as found."""
    able = 0
    for place, step in enumerate(plan.all_steps):
        if is_possible(plan, state, step):
            able = able | 1 << place
    best = {}
    fewest = len(plan.all_steps) + 1
    for seed in plan.places_in(able):
        lines = closed_from(plan, state, able, seed)
        many = len([place for place in lines if able >> place & 1])
        if many < fewest:
            best = lines
            fewest = many
    places = sorted(best)
    return (tuple([plan.all_steps[place] for place in places]), tuple([best[place] for place in places]))


def closed_from(plan, state, able, seed):
    """The least steps that were found to hold to the rules with a possible one: their places, each with its bar."""
    found = {}
    waiting = [seed]
    while len(waiting) > 0:
        place = waiting.pop()
        if place in found:
            continue
        line, asked = None, plan.near_masks[place]
        if not able >> place & 1:
            line, asked = cheapest(plan, found, bars_of(plan, state, plan.all_steps[place]))
        found[place] = line
        waiting.extend([other for other in plan.places_in(asked) if other not in found])
    return found


def cheapest(plan, found, barring):
    """The bar that asks for the fewest steps that are not yet there."""
    return min(barring, key=lambda bar: len([place for place in plan.places_in(bar[1]) if place not in found]))
