"""A small chain of the kind "sweep" for the tests of chains."""
from ranksweeps.chains import Chain
from ranksweeps.rows import row_of


class Step(Chain):
    """Writes into each cell the cell with this rank among those at the offsets; the ends are held."""

    def __init__(self, offsets, rank=1, way="all"):
        self.offsets = tuple(offsets)
        self.rank = rank
        left, right = max(0, -min(offsets)), max(0, max(offsets))
        written = {"all": 0, "on": left, "back": right}[way]
        Chain.__init__(self, "sweep", (), size=1, reach=(left, right), written=written, direction=way)

    def __eq__(self, other):
        return (isinstance(other, Step) and self.offsets == other.offsets
                and self.rank == other.rank and self.direction == other.direction)

    def __call__(self, row):
        cells = row_of(row)
        last = len(cells) - 1
        seen = [sorted(cells[min(last, max(0, i + k))] for k in self.offsets) for i in range(last + 1)]
        return tuple(values[self.rank - 1] for values in seen)
