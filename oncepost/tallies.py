"""Numbers of the whole schedules of a graph, told without listing them."""


def lengths_of(graph):
    """How many whole schedules have 0, 1, 2, .. steps, a tuple up to the longest."""
    # For each state from each length how many schedules of it lead there.
    tallies = [{} for _ in graph.states]
    tallies[0][0] = 1
    for number in graph.downward():
        counts = list(tallies[number].items())
        for _, after in graph.exits[number]:
            above = tallies[after]
            for length, many in counts:
                above[length + 1] = above.get(length + 1, 0) + many
    ends = graph.last_numbers()
    longest = max([length for number in ends for length in tallies[number]])
    return tuple([sum([tallies[number].get(length, 0) for number in ends]) for length in range(longest + 1)])


def classes_of(graph):
    """How many whole schedules there are but for alikeness: those that are their own normal forms.

    A schedule is not its normal form just if some step of it could be done before a greater one: if it is apart
    from that one and from all that are done between. So with each state goes the mask of the steps that are barred
    there by greater ones before.
    """
    near = graph.plan.near_masks
    tallies = [{} for _ in graph.states]
    tallies[0][0] = 1
    total = 0
    for number in graph.downward():
        counts = list(tallies[number].items())
        # What was gone through is not asked for again.
        tallies[number] = {}
        if len(graph.exits[number]) == 0:
            total += sum([many for _, many in counts])
        lesser = 0
        for place, after in graph.exits[number]:
            above = tallies[after]
            for barred, many in counts:
                if not barred >> place & 1:
                    mask = (barred | lesser) & ~near[place]
                    above[mask] = above.get(mask, 0) + many
            lesser = lesser | 1 << place
    return total
