"""Sweeps: the chains of which all others are made."""
from ranksweeps.chains import Chain
from ranksweeps.errors import NoSweep
from ranksweeps.rows import is_within

MOST_WEIGHTS = 7
MOST_WEIGHT = 3
ENDS = ("held", "cut")
WAYS = ("all", "on", "back")


class Sweep(Chain):
    """Writes into each cell the value with this rank among its neighbours, which the weights count."""

    def __init__(self, weights, rank, *, own=None, ends="held", way="all"):
        wrong = wrong_part(weights, rank, own, ends, way)
        if wrong is not None:
            raise NoSweep(wrong)
        self.weights = tuple(weights)
        self.rank = rank
        self.own = (len(weights) - 1) // 2 if own is None else own
        self.ends = ends
        self.way = way
        left, right = reach_of(self.weights, self.own)
        written = {"all": 0, "on": left, "back": right}
        Chain.__init__(self, "sweep", (), size=1, reach=(left, right), written=written[way], direction=way)

    def __eq__(self, other):
        """Return whether both are sweeps with equal arguments."""
        return (isinstance(other, Sweep) and self.weights == other.weights and self.rank == other.rank
                and self.own == other.own and self.ends == other.ends and self.way == other.way)


def wrong_part(weights, rank, own, ends, way):
    """Return the first of these arguments that is not as a sweep needs it, or None."""
    if not are_weights(weights):
        return "weights"
    if not is_within(rank, 1, sum(weights)):
        return "rank"
    if own is not None and not is_within(own, 0, len(weights) - 1):
        return "own"
    if ends not in ENDS:
        return "ends"
    if way not in WAYS:
        return "way"
    return None


def are_weights(value):
    """Return whether the value, of any kind, is a list or tuple of weights, not all 0."""
    if not isinstance(value, (list, tuple)) or not 1 <= len(value) <= MOST_WEIGHTS:
        return False
    return all([is_within(weight, 0, MOST_WEIGHT) for weight in value]) and sum(value) > 0


def reach_of(weights, own):
    """Return how many cells before and behind a cell the sweep reads at most."""
    counting = [index for index, weight in enumerate(weights) if weight > 0]
    return (max(0, own - counting[0]), max(0, counting[-1] - own))
