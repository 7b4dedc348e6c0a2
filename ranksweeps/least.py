"""Least machines: from any machine to the one with the fewest states.

Here a machine is a list of steps, one for each state, and a list of flags that tell the last states. It starts
in state 0. Each step is a tuple with the state that each letter leads to, the letters being 0, 1 and so on.

The operators of Rows run these functions, so they change only lists and dicts of their own, and call no function
that they are passed.
"""

ALONE = ((0,), (1,))
TOGETHER = ((0, 0), (1, 1))


def joined(machines, letters, most):
    """Return (keys, steps) of the machine that runs some machines side by side, or None above `most` states.

    Each letter is a tuple with the letter that each of the machines reads for it. The keys are the tuples of states
    that are reached, in the order of a search in breadth.
    """
    start = tuple([0 for _ in machines])
    places = {start: 0}
    keys = [start]
    steps = []
    while len(steps) < len(keys):
        states = keys[len(steps)]
        targets = []
        for letter in letters:
            key = tuple([machine[state][read] for machine, state, read in zip(machines, states, letter)])
            if key not in places:
                if len(keys) == most:
                    return None
                places[key] = len(keys)
                keys.append(key)
            targets.append(places[key])
        steps.append(tuple(targets))
    return keys, steps


def least_machine(steps, last, most):
    """Return (steps, last) of the least machine for the same rows, or None if it has more than `most` states.

    Its start is not last, and its states are numbered in breadth.
    """
    if last[0]:
        # A start that no letter leads back to; the old one stays last where it is reached again.
        steps = [(zero + 1, one + 1) for zero, one in [steps[0], *steps]]
        last = [False, *last]
    keys, steps = joined([steps], ALONE, len(steps))
    last = [last[key[0]] for key in keys]
    groups = groups_of(steps, last, most)
    if groups is None:
        return None
    # States come in breadth, so the first ones of the groups come in the breadth of the least machine.
    numbers = {}
    firsts = []
    for state, group in enumerate(groups):
        if group not in numbers:
            numbers[group] = len(firsts)
            firsts.append(state)
    least = [tuple([numbers[groups[target]] for target in steps[state]]) for state in firsts]
    return tuple(least), tuple([last[state] for state in firsts])


def groups_of(steps, last, most):
    """Return the list of the groups of the states, equivalent ones in one, or None for more than `most` groups.

    A group is a slice of `order`; it is split by moving those of its states that lead into another one to its front.
    Others are split later by the smaller part only, so that no state is moved often (Hopcroft's way).
    """
    groups = [1 if flag else 0 for flag in last]
    lasts = sum(groups)
    if lasts == 0:
        return groups
    if most < 2:
        return None
    sources = (sources_of(steps, 0), sources_of(steps, 1))
    order = list(parted(groups))
    places = list(inverse(order))
    slices = [(0, len(groups) - lasts), (len(groups) - lasts, len(groups))]
    moved = [0, 0]
    waiting = [(1, 0), (1, 1)]
    while waiting:
        group, letter = waiting.pop()
        for state in sources_into(sources[letter], order[slices[group][0]:slices[group][1]]):
            front = slices[groups[state]][0] + moved[groups[state]]
            moved[groups[state]] = moved[groups[state]] + 1
            order[places[state]] = order[front]
            places[order[front]] = places[state]
            order[front] = state
            places[state] = front
        for split, many in enumerate(list(moved)):
            moved[split] = 0
            larger, smaller = parts_of(slices[split], many)
            if smaller[0] < smaller[1]:
                if len(slices) == most:
                    return None
                for state in order[smaller[0]:smaller[1]]:
                    groups[state] = len(slices)
                slices[split] = larger
                waiting.extend([(len(slices), 0), (len(slices), 1)])
                slices.append(smaller)
                moved.append(0)
    return groups


def parted(groups):
    """Return the list of the states of group 0 and behind them those of group 1."""
    return [state for group in (0, 1) for state, own in enumerate(groups) if own == group]


def inverse(order):
    """Return the list that tells of each state where it stands in the order."""
    places = [0 for _ in order]
    for place, state in enumerate(order):
        places[state] = place
    return places


def parts_of(piece, many):
    """Return the larger and the smaller part of a slice that is cut behind so many states."""
    start, end = piece
    if 2 * many < end - start:
        return (start + many, end), (start, start + many)
    return (start, start + many), (start + many, end)


def sources_of(steps, letter):
    """Return (starts, states): states[starts[t]:starts[t + 1]] are those that the letter leads to t."""
    starts = [0 for _ in range(len(steps) + 2)]
    for step in steps:
        starts[step[letter] + 2] = starts[step[letter] + 2] + 1
    for target in range(2, len(starts)):
        starts[target] = starts[target] + starts[target - 1]
    states = [0 for _ in steps]
    for state, step in enumerate(steps):
        # Where the states of each target start moves on while they are filled in, up to where the next ones start.
        states[starts[step[letter] + 1]] = state
        starts[step[letter] + 1] = starts[step[letter] + 1] + 1
    return starts, states


def sources_into(sources, targets):
    """Return the list of the states that lead to one of these targets."""
    starts, states = sources
    return [state for target in targets for state in states[starts[target]:starts[target + 1]]]
