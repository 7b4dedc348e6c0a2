"""Points [3], [4] and [11.1] word by word: what sweeps and chains make, without any of the program's own ways."""
import random

from ranksweeps.errors import TooLarge
from ranksweeps.sweeps import Sweep


def swept(sweep, row):
    old, row = tuple(row), list(row)
    order = range(len(row))
    for i in (reversed(order) if sweep.way == "back" else order):
        values = []
        for j, weight in enumerate(sweep.weights):
            k = i + j - sweep.own
            if 0 <= k < len(row):
                values += [old[k] if sweep.way == "all" else row[k]] * weight
            elif sweep.ends == "held":
                values += [old[0] if k < 0 else old[-1]] * weight
        values.sort()
        if values:
            row[i] = values[sweep.rank - 1] if sweep.rank <= len(values) else values[-1]
    return tuple(row)


def ring_swept(sweep, row):
    made = []
    for i in range(len(row)):
        values = []
        for j, weight in enumerate(sweep.weights):
            values += [row[(i + j - sweep.own) % len(row)]] * weight
        made.append(sorted(values)[sweep.rank - 1])
    return tuple(made)


def chained(chain, row, step=swept):
    if chain.kind == "sweep":
        return step(chain, row)
    first, second = chain.parts[0], chain.parts[-1]
    if chain.kind == "then":
        return chained(second, chained(first, row, step), step)
    if chain.kind == "higher":
        return tuple(max(pair) for pair in zip(chained(first, row, step), chained(second, row, step)))
    if chain.kind == "lower":
        return tuple(min(pair) for pair in zip(chained(first, row, step), chained(second, row, step)))
    if chain.kind == "turned":
        return tuple(-cell for cell in chained(first, tuple(-cell for cell in row), step))
    if chain.kind == "mirrored":
        return chained(first, row[::-1], step)[::-1]
    for _ in range(chain.times):
        row = chained(first, row, step)
    return tuple(row)


def ringed(chain, row):
    """What the chain makes of the row as a ring."""
    return chained(chain, tuple(row), ring_swept)


def some_sweeps(count, seed, ways=("all", "on", "back")):
    """So many sweeps of all kinds, the same ones for the same seed."""
    chance = random.Random(seed)
    found = []
    while len(found) < count:
        weights = [chance.choice((0, 0, 1, 1, 2, 3)) for _ in range(chance.randint(1, 7))]
        if sum(weights):
            try:
                found.append(Sweep(weights, chance.randint(1, sum(weights)), own=chance.randrange(len(weights)),
                                   ends=chance.choice(("held", "cut")), way=chance.choice(ways)))
            except TooLarge:
                pass
    return found


def some_chains(count, seed, ways=("all", "on")):
    """So many chains of all kinds with some sweeps each, the same ones for the same seed."""
    chance = random.Random(seed)
    sweeps = some_sweeps(200, seed, ways)
    found = []
    while len(found) < count:
        chain = chance.choice(sweeps)
        for _ in range(chance.randint(1, 5)):
            other = chance.choice(sweeps)
            number = chance.randint(0, 3)
            make = chance.choice((lambda p, q, k: p >> q, lambda p, q, k: q >> p, lambda p, q, k: p | q,
                                  lambda p, q, k: p & q, lambda p, q, k: ~p, lambda p, q, k: p.mirrored(),
                                  lambda p, q, k: p ** k))
            try:
                chain = make(chain, other, number)
            except TooLarge:
                pass
        if chain.kind != "sweep":
            found.append(chain)
    return found


def some_rows(count, seed, most_cells=12, values=6):
    """So many rows of 1 cell and more, the same ones for the same seed."""
    chance = random.Random(seed)
    return [tuple(chance.randrange(values) - values // 2 for _ in range(chance.randint(1, most_cells)))
            for _ in range(count)]
