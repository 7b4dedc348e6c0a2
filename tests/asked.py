"""Chains to ask about for all rows, and what becomes of rows, for the tests of points [7] to [14]."""
import random
import time

from by_words import chained, some_chains, some_sweeps
from ranksweeps.sweeps import Sweep
from row_sets import SHORT
from values import KINDS

KEEP = Sweep((1,), 1)
MEDIAN = Sweep((1, 1, 1), 2)
MOST = Sweep((1, 1, 1), 3)
LEAST = Sweep((1, 1, 1), 1)
MOVE = Sweep((1, 0), 1, own=1)                  # each cell takes the one before it
SWING = Sweep((1, 0, 1), 1, ends="cut")
NO_CHAINS = [kind for kind in KINDS if not isinstance(kind, Sweep)]
WRONG_MOST = (0, -1, 501, 10 ** 40, True, False, None, "1", "", 1.0, [1], (1,), KEEP)

# The widest chains: 7 cells are read, and 3 cells in place.
WIDE = Sweep((3, 1, 1, 3, 2, 2, 3), 7, own=0, ends="cut")
WIDE_BACK = Sweep((0, 0, 0, 1), 1, own=0, ends="cut", way="back")
WIDE_ALL = Sweep((1, 2, 1, 3, 1, 2, 1), 5, own=3)
WIDE_ON = Sweep((1, 1, 2, 3), 4, own=3, way="on")


def ways_of(seed):
    """What chains can stand together: all, on beside all, back beside all."""
    return (("all",), ("all", "on"), ("all", "back"))[seed % 3]


def chains_and_sweeps(count, seed):
    """So many chains of all kinds and half as many sweeps, the same ones for the same seed."""
    return some_chains(count, seed, ways_of(seed)) + some_sweeps((count + 1) // 2, seed, ways_of(seed))


def together(first, second):
    """Whether both can be asked together: the limits of point [7]."""
    reach = max(first.reach[0], second.reach[0]) + max(first.reach[1], second.reach[1])
    return (reach <= 6 and first.written + second.written <= 3
            and {first.direction, second.direction} != {"on", "back"})


def some_pairs(count, seed):
    """So many pairs of chains that can be asked together, the same ones for the same seed."""
    chance = random.Random(seed)
    chains = chains_and_sweeps(80, seed)
    found = []
    while len(found) < count:
        pair = chance.choice(chains), chance.choice(chains)
        if together(*pair):
            found.append(pair)
    return found


def short_made(chain):
    """What the chain makes of each row of up to 8 cells."""
    return {row: chained(chain, row) for row in SHORT}


def long_rows(count, seed, least_cells=20, most_cells=300):
    chance = random.Random(seed)
    return [tuple(chance.choice((0, 1)) if chance.random() < 0.4 else k // 7 % 2
                  for k in range(chance.randint(least_cells, most_cells))) for _ in range(count)]


def passed(chain, row, number):
    """The row after so many passes."""
    for _ in range(number):
        row = chained(chain, row)
    return row


class Clock:
    """Fails if what is done within it takes longer than some seconds."""

    def __init__(self, case, seconds=5):
        self.case = case
        self.seconds = seconds

    def __enter__(self):
        self.start = time.perf_counter()

    def __exit__(self, *told):
        self.case.assertLess(time.perf_counter() - self.start, self.seconds)
