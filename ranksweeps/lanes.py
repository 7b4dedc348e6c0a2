"""Rings of 0 and 1 of the same length, many at once, as the bits of one number.

Cell i of ring k is the bit k * length + i. Levels pass through sweeps, so a ring of integers is the rings of its
levels; and sweeps over all rings at once take only some operations on numbers.
"""
from ranksweeps.parts import through

# The weights of a sweep add up to at most 21.
DIGITS = 5
MOST_OFFSET = 6


class Lanes:
    """The places of so many rings of this length in a number."""

    def __init__(self, length, count):
        self.length = length
        self.count = count
        firsts = sum([1 << (ring * length) for ring in range(count)])
        self.full = firsts * ((1 << length) - 1)
        # For each offset: where the neighbours stand in the same ring without going round.
        self.straight = {offset: firsts * ((1 << (length - offset % length)) - 1)
                         for offset in range(-MOST_OFFSET, MOST_OFFSET + 1)}

    def neighbours(self, bits, offset):
        """Return the number that has at each cell the bit of the cell that is so many cells further on."""
        straight = self.straight[offset]
        steps = offset % self.length
        return (bits >> steps) & straight | (bits << (self.length - steps)) & (self.full ^ straight)

    def swept(self, sweep, bits, mirrored, dual):
        """Return what a sweep makes, seen from the end if mirrored, with 0 and 1 exchanged if dual."""
        digits = [0 for _ in range(DIGITS)]
        for index, weight in enumerate(sweep.weights):
            if weight > 0:
                offset = sweep.own - index if mirrored else index - sweep.own
                near = self.neighbours(bits, offset)
                if weight != 2:
                    add_ones(digits, near, 0)
                if weight >= 2:
                    add_ones(digits, near, 1)
        needed = sweep.rank if dual else sum(sweep.weights) + 1 - sweep.rank
        enough = self.full
        for digit in digits:
            enough = digit & enough if needed % 2 == 1 else digit | enough
            needed = needed // 2
        return enough

    def joined(self, kind, one, two):
        """Return the greater ("higher") or the lesser cells of both."""
        return one | two if kind == "higher" else one & two

    def ringed(self, chain, bits):
        """Return what a chain of direction "all" makes of the rings."""
        return through(self, chain, bits, False, False)

    def ring(self, bits, number):
        """Return the ring with this number as a tuple of cells."""
        own = bits >> (number * self.length)
        return tuple([(own >> index) & 1 for index in range(self.length)])


def add_ones(digits, bits, place):
    """Add a 1 at this place to the binary digits of all cells that have a bit."""
    for index in range(place, DIGITS):
        digits[index], bits = digits[index] ^ bits, digits[index] & bits


def number_of(rings, length):
    """Return the number that stands for the list of rings of this length."""
    return sum([cell << (number * length + index)
                for number, cells in enumerate(rings) for index, cell in enumerate(cells)])
