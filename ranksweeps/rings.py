"""Rings: rows in which the first cell stands behind the last one."""
from ranksweeps.chains import MOST_REACH, greater_reach
from ranksweeps.counting import check_counting, multiplied
from ranksweeps.decided import WORDS, check_chain
from ranksweeps.errors import NoNumber, NoRing, TooLarge, TooMany
from ranksweeps.lanes import Lanes, number_of
from ranksweeps.rows import is_within, level, levels, row_of

MOST_PASSES = 10000
MOST_COUNTED_REACH = 4


def ring(p, row):
    """Return the row that p makes of the row as a ring."""
    cells = asked_ring(p, row)
    lanes, bits = lanes_of(cells)
    return cells_of(lanes, lanes.ringed(p, bits), levels(cells))


def ring_passes(p, row, *, most=1000):
    """Return (ahead, round): after `ahead` passes the rings come back every `round` passes."""
    cells = asked_ring(p, row)
    if not is_within(most, 1, MOST_PASSES):
        raise NoNumber("most")
    lanes, bits = lanes_of(cells)
    places = {bits: 0}
    for number in range(1, most + 1):
        bits = lanes.ringed(p, bits)
        if bits in places:
            return (places[bits], number - places[bits])
        places[bits] = number
    raise TooMany(most)


def ring_relation(p, q):
    """Return "alike", "above", "below" or "apart", for the chains on rings."""
    check_rings(p, q)
    greater = False
    less = False
    for lanes, bits in short_rings(p, q):
        one, two = lanes.ringed(p, bits), lanes.ringed(q, bits)
        unlike = one ^ two
        greater = greater or (one & unlike) > 0
        less = less or (two & unlike) > 0
    return WORDS[(greater, less)]


def ring_parting(p, q):
    """Return (row, index): the least row of 0 and 1 of which the chains make unlike rings, and where; or None."""
    check_rings(p, q)
    for lanes, bits in short_rings(p, q):
        unlike = lanes.ringed(p, bits) ^ lanes.ringed(q, bits)
        if unlike > 0:
            # The rings stand in the order of tuples, so the first bit is in the least one.
            number, index = divmod(first_bit(unlike), lanes.length)
            return (lanes.ring(bits, number), index)
    return None


def ring_count(p, length, *, modulo=None):
    """Return how many rings of 0 and 1 of this length p makes to themselves, or the remainder of this number."""
    check_chain(p, "p")
    check_counting(length, modulo)
    check_direction(p)
    if p.reach[0] + p.reach[1] > MOST_COUNTED_REACH:
        raise TooLarge("reach")
    # There are no more rings than 2 ** length, so a greater remainder is the number itself.
    divisor = 1 << (length + 1) if modulo is None else modulo
    power = powered(staying_steps(p), length, divisor)
    return sum([power[state][state] for state in range(len(power))]) % divisor


def check_direction(chain):
    """Raise NoRing if the chain writes in place, which has no first cell in a ring."""
    if chain.direction != "all":
        raise NoRing()


def asked_ring(chain, row):
    """Return the row as a tuple, or raise the error of the first argument that is wrong."""
    check_chain(chain, "p")
    check_direction(chain)
    return row_of(row)


def check_rings(p, q):
    """Raise the first error of two chains that are to be compared on rings."""
    check_chain(p, "p")
    check_chain(q, "q")
    check_direction(p)
    check_direction(q)
    left, right = greater_reach(p, q)
    if left + right > MOST_REACH:
        raise TooLarge("reach")


def lanes_of(row):
    """Return (lanes, bits) for the levels of a row, ascending, but for the lowest one, in which all cells are 1."""
    rings = [level(row, value) for value in levels(row)[1:]]
    return Lanes(len(row), len(rings)), number_of(rings, len(row))


def cells_of(lanes, bits, values):
    """Return the row with these values of which the bits are the levels."""
    rings = [lanes.ring(bits, number) for number in range(lanes.count)]
    return tuple([values[sum([cells[index] for cells in rings])] for index in range(lanes.length)])


def short_rings(p, q):
    """Return the list of (lanes, bits) with all rings of 0 and 1 on which two chains may part first, by length."""
    left, right = greater_reach(p, q)
    return [all_rings(length) for length in range(1, left + right + 2)]


def all_rings(length):
    """Return (lanes, bits) with all rings of this length in the order of tuples."""
    rings = rows_of_bits(length)
    return Lanes(length, len(rings)), number_of(rings, length)


def rows_of_bits(length):
    """Return the list of all rows of 0 and 1 of this length in the order of tuples."""
    rows = [()]
    for _ in range(length):
        rows = [row + (cell,) for row in rows for cell in (0, 1)]
    return rows


def first_bit(number):
    """Return the place of the lowest 1 of a number."""
    return (number & -number).bit_length() - 1


def staying_steps(chain):
    """Return the table of the steps from cell to cell in rings that stay.

    A state is what stands in all cells but the last one that a cell depends on; a step goes one cell on, if the
    cell stays. A ring that stays is a way of so many steps that comes back, whether or not it is shorter.
    """
    left, right = chain.reach
    lanes, bits = all_rings(left + right + 1)
    made = lanes.ringed(chain, bits)
    states = rows_of_bits(left + right)
    places = {row: state for state, row in enumerate(states)}
    table = [[0 for _ in states] for _ in states]
    for number in range(lanes.count):
        cells = lanes.ring(bits, number)
        if lanes.ring(made, number)[left] == cells[left]:
            line = table[places[cells[:-1]]]
            line[places[cells[1:]]] = line[places[cells[1:]]] + 1
    return table


def powered(table, exponent, modulo):
    """Return the power of a table of numbers, all items as remainders; the exponent is 1 or more."""
    power = table
    bits = 0
    while exponent >> bits > 1:
        bits = bits + 1
    for bit in reversed(range(bits)):
        power = multiplied(power, power, modulo)
        if (exponent >> bit) & 1 == 1:
            power = multiplied(power, table, modulo)
    return power
