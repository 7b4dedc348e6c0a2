"""Sweeps by their offsets, for the tests of chains."""
from ranksweeps.sweeps import Sweep


def step(offsets, rank=1, way="all"):
    """The sweep that writes into each cell the cell with this rank among those at the offsets; the ends are held."""
    own = max(0, -min(offsets))
    weights = [1 if place - own in offsets else 0 for place in range(own + max(0, max(offsets)) + 1)]
    return Sweep(weights, rank, own=own, way=way)
