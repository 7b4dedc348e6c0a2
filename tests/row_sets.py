"""Sets of rows word by word, for the tests of point [6]."""
import itertools
import random

from ranksweeps.machines import Rows

SHORT = [row for length in range(1, 9) for row in itertools.product((0, 1), repeat=length)]


def taken(steps, last, row):
    """Whether the machine leads the row to a last state."""
    state = 0
    for cell in row:
        state = steps[state][cell]
    return len(row) > 0 and last[state]


def short_rows(rows):
    """All rows of up to 8 cells in the set."""
    return {row for row in SHORT if row in rows}


def least_size(steps, last):
    """The number of states of the least machine whose start is not last, by splitting all groups round by round."""
    if last[0]:
        steps = [(zero + 1, one + 1) for zero, one in [steps[0], *steps]]
        last = [False, *last]
    states = [0]
    for state in states:
        states.extend(target for target in dict.fromkeys(steps[state]) if target not in states)
    groups = {state: last[state] for state in states}
    while True:
        signs = {state: (groups[state], *[groups[target] for target in steps[state]]) for state in states}
        numbers = {sign: number for number, sign in enumerate(dict.fromkeys(signs.values()))}
        if len(numbers) == len(set(groups.values())):
            return len(numbers)
        groups = {state: numbers[signs[state]] for state in states}


def numbering(steps):
    """The states in the order in which a search in breadth meets them."""
    order = [0]
    for state in order:
        order.extend(target for target in dict.fromkeys(steps[state]) if target not in order)
    return order


def some_machines(count, seed, most_states=7):
    """So many machines, the same ones for the same seed; not all of their states are reached."""
    chance = random.Random(seed)
    found = []
    for _ in range(count):
        states = chance.randint(1, most_states)
        share = chance.choice((0.2, 0.5, 0.8))
        found.append(([(chance.randrange(states), chance.randrange(states)) for _ in range(states)],
                      [chance.random() < share for _ in range(states)]))
    return found


def some_sets(count, seed, most_states=7):
    return [Rows(steps, last) for steps, last in some_machines(count, seed, most_states)]


def lengths_set(count, lasts=(0,)):
    """The rows of which the length has one of these remainders by count: a machine that goes round."""
    return Rows([((k + 1) % count,) * 2 for k in range(count)], [k in lasts for k in range(count)])


def long_set(length):
    """The rows of exactly so many cells: length + 2 states."""
    steps = [(min(k + 1, length + 1),) * 2 for k in range(length + 2)]
    return Rows(steps, [k == length for k in range(length + 2)])


def one_before_the_end(distance):
    """The rows with a 1 so many cells before the last one: 2 ** (distance + 1) states, but mirrored few."""
    states = [bits for length in range(distance + 2) for bits in itertools.product((0, 1), repeat=length)]
    full = [bits for bits in states if len(bits) == distance + 1]
    steps = [[full.index((*bits[1:], cell)) for cell in (0, 1)] for bits in full]
    return Rows(steps, [bits[0] == 1 for bits in full])


def zeros(length):
    """The row of so many 0 alone: length + 2 states."""
    return Rows([(min(k + 1, length + 1), length + 1) for k in range(length + 2)],
                [k == length for k in range(length + 2)])


def ones(count):
    """The rows with at least count - 1 cells 1: so many states, each for the 1s that were read."""
    return Rows([(k, min(k + 1, count - 1)) for k in range(count)], [k == count - 1 for k in range(count)])
