"""Chains: sweeps, and what operators and methods make of chains."""
from ranksweeps.errors import NoNumber, TooLarge
from ranksweeps.filters import filtered
from ranksweeps.rows import is_within, row_of

MOST_SIZE = 8
MOST_DEPTH = 20
MOST_REACH = 6
MOST_WRITTEN = 3
MOST_TIMES = 8

MIRRORED_DIRECTION = {"all": "all", "on": "back", "back": "on"}


class Chain:
    """A way to make a row of a row. Callers make chains by Sweep, operators and methods."""

    def __init__(self, kind, parts, *, size, reach, written, direction, times=1):
        self.kind = kind
        self.parts = parts
        self.times = times
        self.size = size
        self.depth = 1 + max([int(part.depth) for part in parts], default=0)
        self.reach = reach
        self.written = written
        self.direction = direction
        broken = broken_limit(self)
        if broken is not None:
            raise TooLarge(broken)

    def __call__(self, row):
        """Return the row that the chain makes of the row."""
        return made(self, row_of(row), filtered)

    def __eq__(self, other):
        """Return whether both are written alike. A sweep has more to compare, and its own __eq__."""
        return (isinstance(other, Chain) and self.kind == other.kind
                and self.times == other.times and self.parts == other.parts)

    def __rshift__(self, other):
        """Return the chain that applies this one and then the other one."""
        reach = (self.reach[0] + other.reach[0], self.reach[1] + other.reach[1])
        return pair("then", self, other, reach)

    def __or__(self, other):
        """Return the chain that takes the greater of the two cells."""
        return pair("higher", self, other, greater_reach(self, other))

    def __and__(self, other):
        """Return the chain that takes the lesser of the two cells."""
        return pair("lower", self, other, greater_reach(self, other))

    def __invert__(self):
        """Return the chain that sees all cells, and gives them, with the other sign."""
        return Chain("turned", (self,), size=self.size, reach=self.reach,
                     written=self.written, direction=self.direction)

    def __pow__(self, other):
        """Return the chain that applies this one so many times."""
        return self.repeated(other)

    def repeated(self, number):
        """Return the chain that applies this one so many times, from 0 to 8."""
        if not is_within(number, 0, MOST_TIMES):
            raise NoNumber("times")
        reach = (number * self.reach[0], number * self.reach[1])
        direction = self.direction if number > 0 else "all"
        return Chain("times", (self,), size=max(1, number * self.size), reach=reach,
                     written=number * self.written, direction=direction, times=number)

    def mirrored(self):
        """Return the chain that goes over the reversed row and reverses the result."""
        return Chain("mirrored", (self,), size=self.size, reach=(self.reach[1], self.reach[0]),
                     written=self.written, direction=MIRRORED_DIRECTION[self.direction])

    def sweeps(self):
        """Return the list of the sweeps in the order of parts, the part of a "times" chain once."""
        if self.kind == "sweep":
            return [self]
        found = []
        for part in self.parts:
            found.extend(part.sweeps())
        return found


def pair(kind, first, second, reach):
    """Return the chain of this kind and reach that has two parts."""
    return Chain(kind, (first, second), size=first.size + second.size, reach=reach,
                 written=first.written + second.written,
                 direction=joint_direction(first.direction, second.direction))


def greater_reach(first, second):
    """Return the greater left and the greater right reach of two chains."""
    return (max(int(first.reach[0]), second.reach[0]), max(int(first.reach[1]), second.reach[1]))


def joint_direction(first, second):
    """Return the direction of two parts with these directions, or None for "on" beside "back"."""
    if first == "all" or first == second:
        return second
    if second == "all":
        return first
    return None


def broken_limit(chain):
    """Return the first limit that the chain breaks, or None."""
    if chain.size > MOST_SIZE:
        return "size"
    if chain.depth > MOST_DEPTH:
        return "depth"
    if chain.reach[0] + chain.reach[1] > MOST_REACH:
        return "reach"
    if chain.written > MOST_WRITTEN:
        return "written"
    if chain.direction is None:
        return "ways"
    return None


def made(chain, row, step):
    """Return the row that the chain makes of a tuple, where step(sweep, row) is what a sweep makes.

    The step is handed in because rings go through the same kinds of chains with other neighbours,
    and because a row within the program may be longer than a row that is passed.
    """
    if chain.kind == "sweep":
        return step(chain, row)
    first = chain.parts[0]
    if chain.kind == "turned":
        return negated(made(first, negated(row), step))
    if chain.kind == "mirrored":
        return made(first, row[::-1], step)[::-1]
    if chain.kind == "times":
        for _ in range(chain.times):
            row = made(first, row, step)
        return row
    second = chain.parts[1]
    if chain.kind == "then":
        return made(second, made(first, row, step), step)
    return chosen(chain.kind, made(first, row, step), made(second, row, step))


def negated(row):
    """Return the row with the sign of all cells changed."""
    return tuple([-cell for cell in row])


def chosen(kind, row, other):
    """Return the row of the greater cells of two rows if the kind is "higher", else of the lesser ones."""
    if kind == "higher":
        return tuple([a if a > b else b for a, b in zip(row, other)])
    return tuple([a if a < b else b for a, b in zip(row, other)])
