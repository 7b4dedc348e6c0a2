"""Sets of rows that are told by a reader and a judge: which rows are in them, which is the first, how many there are.

A judge reads the letters that a reader tells of a row, from the first cell on. A backward reader tells them from the
last cell on, so what it tells is judged from its end. The two are told apart here and nowhere else.
"""
from ranksweeps.errors import TooMany
from ranksweeps.machines import least_rows
from ranksweeps.searches import explored


class Judge:
    """A machine that reads letters: moves[letter][state] is the state that a letter leads to.

    It starts in state 0, and a row is in the set if its letters lead to a state with last[state] True.
    """

    def __init__(self, moves, last):
        self.moves = {letter: moves[letter] for letter in moves}
        # Where a reader tells nothing, the judge stays.
        self.moves[None] = list(range(len(last)))
        self.last = last

    def behind(self, state, letters):
        """Return the state that the letters lead to."""
        for letter in letters:
            state = self.moves[letter][state]
        return state


class Walk:
    """The ways of a reader and its judge through all rows, from their first cells on.

    A place is a pair of a state of the reader and one of the judge. Of a backward reader it is the state behind
    all cells that are still to come, so the walk goes its steps back, from every state, to its start.
    """

    def __init__(self, reader, judge):
        self.reader = reader
        self.judge = judge
        self.arcs = arcs_back(reader) if reader.backward else arcs_on(reader)
        self.starts = [(0, 0)]
        if reader.backward:
            self.starts = [(state, begun(reader, judge, state)) for state in range(len(reader.steps))]

    def targets(self, place, cell):
        """Return the list of the places that a cell leads to."""
        state, judged = place
        return [(target, self.judge.moves[letter][judged]) for target, letter in self.arcs[state][cell]]

    def is_end(self, place):
        """Return whether a row that leads to this place is in the set."""
        state, judged = place
        if self.reader.backward:
            return state == 0 and self.judge.last[judged]
        return self.judge.last[self.judge.behind(judged, self.reader.ends[state])]


def arcs_on(reader):
    """Return, for each state and cell, the list of the one pair (target, letter)."""
    return [[[(target, letter)] for target, letter in zip(step, letters)]
            for step, letters in zip(reader.steps, reader.letters)]


def arcs_back(reader):
    """Return, for each state and cell, the list of the pairs (source, letter) of the steps that lead to it."""
    arcs = [[[], []] for _ in reader.steps]
    for source, step in enumerate(reader.steps):
        for cell in (0, 1):
            arcs[step[cell]][cell].append((source, reader.letters[source][cell]))
    return arcs


def begun(reader, judge, state):
    """Return what a judge says of the letters that a backward reader tells last: those of the first cells."""
    return judge.behind(0, reader.ends[state][::-1])


def judged_least(reader, judge):
    """Return the least row of the set, or None."""
    walk = Walk(reader, judge)
    seen = {}
    groups = [((), walk.starts)]
    while groups:
        longer = []
        for row, places in groups:
            for cell in (0, 1):
                # Rows come in their order, so the first one that leads to a place is as good as any.
                fresh = fresh_targets(walk, places, cell, seen)
                if True in [walk.is_end(target) for target in fresh]:
                    return row + (cell,)
                if fresh:
                    longer.append((row + (cell,), fresh))
        groups = longer
    return None


def fresh_targets(walk, places, cell, seen):
    """Return the list of the places that a cell leads to and that are not in the dict `seen`; then they are."""
    fresh = []
    for place in places:
        for target in walk.targets(place, cell):
            if target not in seen:
                seen[target] = True
                fresh.append(target)
    return fresh


def judged_count(reader, judge, length):
    """Return how many rows of this length are in the set: each has just one way to a place where it ends."""
    walk = Walk(reader, judge)
    counts = {place: 1 for place in walk.starts}
    for _ in range(length):
        longer = {}
        for place, count in counts.items():
            for target in walk.targets(place, 0) + walk.targets(place, 1):
                longer[target] = longer.get(target, 0) + count
        counts = longer
    return sum([count for place, count in counts.items() if walk.is_end(place)])


def judged_rows(reader, judge, most):
    """Return the Rows of the set, or raise TooMany if its least machine has more than `most` states."""
    if reader.backward:
        return rows_back(reader, judge, most)
    walk = Walk(reader, judge)
    places, steps = explored((0, 0), lambda place: walk.targets(place, 0) + walk.targets(place, 1))
    return least_rows(steps, [walk.is_end(place) for place in places], most)


def rows_back(reader, judge, most):
    """Return the Rows of the set of a backward reader.

    What has been read of a row, from its first cell on, is told by what the judge says of it for each state in
    which the reader may have come to it: a list of states of the judge. As only states that the rest of a row can
    tell apart are kept, different lists are never equivalent, and there are few if the result has few states. The
    start may count once more, since no cells lead to it.
    """
    merged = merged_states(reader, judge)
    start = tuple([own[begun(reader, judge, state)] for state, own in enumerate(merged)])
    found = explored(start, lambda states: [shifted(reader, judge, merged, states, cell) for cell in (0, 1)], most + 1)
    if found is None:
        raise TooMany(most)
    keys, steps = found
    return least_rows(steps, [judge.last[key[0]] for key in keys], most)


def shifted(reader, judge, merged, states, cell):
    """Return the states of the judge for each state of the reader behind one cell more."""
    return tuple([own[judge.moves[letters[cell]][states[step[cell]]]]
                  for own, step, letters in zip(merged, reader.steps, reader.letters)])


def merged_states(reader, judge):
    """Return, for each state of a backward reader, the list of what to take for each state of the judge.

    That is the first of the states that no letters told on the way to this state of the reader tell apart from it.
    """
    merged = [[0 for _ in judge.last] for _ in reader.steps]
    merged[0] = firsts_of(judge.last)
    waiting = [0]
    while waiting:
        source = waiting.pop()
        for target, letter in zip(reader.steps[source], reader.letters[source]):
            behind = [merged[source][state] for state in judge.moves[letter]]
            finer = firsts_of(list(zip(merged[target], behind)))
            if finer != merged[target]:
                merged[target] = finer
                waiting.append(target)
    return merged


def firsts_of(signs):
    """Return, for each sign, the index of the first one that is equal."""
    firsts = {}
    return [firsts.setdefault(sign, index) for index, sign in enumerate(signs)]
