"""The cheapest chain of given sweeps that is alike to a chain, and reasons why no cheaper one is."""
from ranksweeps.decided import broken_together, check_chain, parting, relation
from ranksweeps.errors import NoAnswer, NoNumber, TooLarge
from ranksweeps.rows import first_false, is_bits, is_number, is_within
from ranksweeps.sweeps import Sweep

MOST_SWEEPS = 4
MOST_COST = 10 ** 9
MOST_INDEXES = 3
USUAL_COST = 1


class Candidate:
    """A row of indexes with its chain and its cost."""

    def __init__(self, indexes, chain, cost):
        self.indexes = indexes
        self.chain = chain
        self.cost = cost


def cheapest(p, sweeps, *, costs=None, most=MOST_INDEXES):
    """Return (cost, indexes) of the first row of indexes whose chain is alike to p, or None."""
    check_question(p, sweeps, costs, most)
    for candidate in candidates(p, sweeps, costs, most):
        if relation(p, candidate.chain) == "alike":
            return (candidate.cost, candidate.indexes)
    return None


def ruled_out(p, sweeps, *, costs=None, most=MOST_INDEXES):
    """Return the list of (indexes, row) ahead of the first row of indexes whose chain is alike to p."""
    check_question(p, sweeps, costs, most)
    reasons = []
    for candidate in candidates(p, sweeps, costs, most):
        found = parting(p, candidate.chain)
        if found is None:
            return reasons
        reasons.append((candidate.indexes, found[0]))
    return reasons


def check_cheapest(p, sweeps, answer, reasons, *, costs=None, most=MOST_INDEXES):
    """Raise NoAnswer if the answer or a reason is wrong."""
    check_question(p, sweeps, costs, most)
    needed = candidates(p, sweeps, costs, most)
    if answer is not None:
        place = place_of(answer, needed)
        if place is None:
            raise NoAnswer("answer", -1)
        if relation(p, needed[place].chain) != "alike":
            raise NoAnswer("answer", 0)
        needed = needed[:place]
    if not isinstance(reasons, (list, tuple)):
        raise NoAnswer("reasons", -1)
    for index, candidate in enumerate(needed):
        if index == len(reasons) or not is_reason(reasons[index], p, candidate):
            raise NoAnswer("reasons", index)
    if len(reasons) > len(needed):
        raise NoAnswer("reasons", len(needed))


def check_question(p, sweeps, costs, most):
    """Raise the first error of the arguments that all three functions take."""
    check_chain(p, "p")
    if not isinstance(sweeps, (list, tuple)) or not 1 <= len(sweeps) <= MOST_SWEEPS:
        raise NoAnswer("sweeps", -1)
    wrong = first_false([isinstance(sweep, Sweep) for sweep in sweeps])
    if wrong is not None:
        raise NoAnswer("sweeps", wrong)
    if costs is not None:
        if not isinstance(costs, (list, tuple)) or len(costs) != len(sweeps):
            raise NoAnswer("costs", -1)
        wrong = first_false([is_within(cost, 0, MOST_COST) for cost in costs])
        if wrong is not None:
            raise NoAnswer("costs", wrong)
    if not is_within(most, 0, MOST_INDEXES):
        raise NoNumber("most")


def candidates(p, sweeps, costs, most):
    """Return the list of the candidates that are not left out, in their order."""
    prices = [USUAL_COST for _ in sweeps] if costs is None else list(costs)
    found = [candidate for candidate in all_candidates(sweeps, prices, most)
             if broken_together(p, candidate.chain) is None]
    different = sorted(set([int(candidate.cost) for candidate in found]))
    return [candidate for cost in different for candidate in found if candidate.cost == cost]


def all_candidates(sweeps, prices, most):
    """Return the list of the candidates whose chains can be made, by length and then in the order of tuples."""
    found = [Candidate((), Sweep((1,), 1), 0)]
    latest = found
    for _ in range(most):
        longer = []
        for shorter in latest:
            for index, sweep in enumerate(sweeps):
                chain = sweep if shorter.indexes == () else joined_chain(shorter.chain, sweep)
                if chain is not None:
                    longer.append(Candidate(shorter.indexes + (index,), chain, shorter.cost + prices[index]))
        found = found + longer
        latest = longer
    return found


def joined_chain(chain, sweep):
    """Return the chain that applies a sweep behind a chain, or None if it can't be made."""
    try:
        return chain >> sweep
    except TooLarge:
        return None


def place_of(answer, needed):
    """Return the index of the candidate that an answer, of any kind, tells with its cost, or None."""
    if not isinstance(answer, (list, tuple)) or len(answer) != 2 or not is_number(answer[0]):
        return None
    for index, candidate in enumerate(needed):
        if is_same(answer[1], candidate.indexes):
            return index if answer[0] == candidate.cost else None
    return None


def is_same(value, indexes):
    """Return whether the value, of any kind, is a list or tuple of just these integers."""
    if not isinstance(value, (list, tuple)) or not all([is_number(item) for item in value]):
        return False
    return tuple(value) == indexes


def is_reason(value, p, candidate):
    """Return whether the value, of any kind, is a reason why the chain of the candidate is not alike to p."""
    if not isinstance(value, (list, tuple)) or len(value) != 2:
        return False
    indexes, row = value
    chain = candidate.chain
    return is_same(indexes, candidate.indexes) and is_bits(row) and p(row) != chain(row)
