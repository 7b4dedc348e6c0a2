"""Stations: what becomes of a row of 0 and 1 that is read cell by cell.

A station reads one or two streams of cells and makes a stream of its own with as many cells. It makes a cell as soon
as all cells that this one depends on have come, so some cells late, and the last ones when it hears that the row ends.
What it must remember in between is a number: the state of a small machine.
"""
from ranksweeps.filters import counted_offsets
from ranksweeps.searches import traced


class Window:
    """The rule of a sweep on 0 and 1: which cells around a cell it counts, and what it writes."""

    def __init__(self, left, right, offsets, *, rank=1, cut=False, in_place=False, dual=False):
        self.left = left
        self.right = right
        self.places = [left + offset for offset in offsets]
        self.rank = rank
        self.cut = cut
        # Whether the cells before the own one have their new values.
        self.in_place = in_place
        # Whether 0 and 1 are exchanged, so that ranks are counted from the greatest value.
        self.dual = dual

    def value(self, cells):
        """Return what is written, where the cells are those from left to right and None stands beyond an end."""
        values = [cells[place] for place in self.places if cells[place] is not None]
        if not values:
            return cells[self.left]
        rank = min(self.rank, len(values))
        ones = sum(values)
        if self.dual:
            return 0 if ones < rank else 1
        return 1 if len(values) - ones < rank else 0


class Station:
    """A machine that reads, as its letters, the sums of the cells of its sources: the numbers of streams.

    made[state][letter] is the cell that it makes at this letter, None as long as there is none, and ends[state] is
    the list of the cells that it still makes when the row ends in this state. In all, a cell is made `delay` cells
    behind the cell that it replaces.
    """

    def __init__(self, sources, steps, made, ends, delay):
        self.sources = sources
        self.steps = steps
        self.made = made
        self.ends = ends
        self.delay = delay


def window_of(sweep, mirrored, dual):
    """Return the window of a sweep that reads from the first cell on: its way is "all" or "on", seen like this."""
    left, right = sweep.reach
    offsets = counted_offsets(sweep)
    if mirrored:
        left, right = right, left
        offsets = [-offset for offset in offsets]
    return Window(left, right, offsets, rank=sweep.rank, cut=sweep.ends == "cut", in_place=sweep.way != "all",
                  dual=dual)


def window_station(window, source, delay):
    """Return the station of a window that reads a stream with this delay."""
    keys, steps, made = traced((), lambda held: [fed(window, held, cell) for cell in (0, 1)])
    ends = [left_over(window, held) for held in keys]
    return Station((source,), steps, made, ends, delay + window.right)


def joining_station(first, second, kind, delay):
    """Return the station that takes the greater ("higher") or the lesser cell of two streams with this delay."""
    return Station((first, second), [(0, 0, 0)], [(0, 1, 1) if kind == "higher" else (0, 0, 1)], [[]], delay)


def fed(window, held, cell):
    """Return (held, made): the cells to remember behind this one, and the cell that is made, or None."""
    if not held:
        # The first cell: what lies before it, if held, has its value.
        held = (None if window.cut else cell,) * window.left
    cells = held + (cell,)
    if len(cells) <= window.left + window.right:
        return cells, None
    made = window.value(cells)
    kept = made if window.in_place else cells[window.left]
    return (cells[:window.left] + (kept,) + cells[window.left + 1:])[1:], made


def left_over(window, held):
    """Return the list of the cells that are still made when the row ends."""
    made = []
    if held:
        beyond = None if window.cut else held[-1]
        for _ in range(window.right):
            held, cell = fed(window, held, beyond)
            if cell is not None:
                made.append(cell)
    return made
