"""Sets of rows of 0 and 1, each described by its least machine."""
from ranksweeps.counting import (check_counting, least_row, most_cells, number_of_row, row_numbered, rows_counted,
                                 rows_from_all, rows_of_length)
from ranksweeps.errors import NoNumber, NoRow, NoRows, TooMany
from ranksweeps.least import TOGETHER, joined, least_machine
from ranksweeps.rows import MOST_CELLS, bits_of, first_false, is_bits, is_within
from ranksweeps.searches import explored

MOST_STATES = 500
MOST_LISTED = 12
MOST_GIVEN = 30
LEAST_VALUES = 2
MOST_VALUES = 4

# For two sets: which of (in the first one, in the second one) are in the result.
IN_BOTH = ((True, True),)
IN_EITHER = ((True, True), (True, False), (False, True))
IN_FIRST_ALONE = ((True, False),)
IN_ONE_ALONE = ((True, False), (False, True))


class Rows:
    """A set of rows of 0 and 1, each of one cell or more, as its least machine."""

    def __init__(self, steps, last):
        check_steps(steps)
        check_last(last, len(steps))
        least = least_machine([tuple(step) for step in steps], list(last), MOST_STATES)
        if least is None:
            raise TooMany(MOST_STATES)
        self.steps = least[0]
        self.last = least[1]

    def __len__(self):
        """Return the number of states of the least machine."""
        return len(self.steps)

    def __contains__(self, row):
        """Return whether the value, of any kind, is a row of the set."""
        if not isinstance(row, (list, tuple)):
            return False
        state = 0
        for cell in row:
            if not is_within(cell, 0, 1):
                return False
            state = self.steps[state][cell]
        # The row of no cells leads to state 0, which is not a last one.
        return self.last[state]

    def __eq__(self, other):
        """Return whether both are sets of the same rows."""
        return isinstance(other, Rows) and self.steps == other.steps and self.last == other.last

    def __le__(self, other):
        """Return whether every row of this set is in the other one."""
        return is_part(self, other)

    def __lt__(self, other):
        """Return whether this set is a part of the other one, and not all of it."""
        return is_part(self, other) and not self == other

    def __ge__(self, other):
        """Return whether every row of the other set is in this one."""
        return is_part(other, self)

    def __gt__(self, other):
        """Return whether the other set is a part of this one, and not all of it."""
        return is_part(other, self) and not self == other

    def __and__(self, other):
        """Return the set of the rows that are in both."""
        return combined(self, other, IN_BOTH)

    def __or__(self, other):
        """Return the set of the rows that are in at least one."""
        return combined(self, other, IN_EITHER)

    def __sub__(self, other):
        """Return the set of the rows that are in this one and not in the other one."""
        return combined(self, other, IN_FIRST_ALONE)

    def __xor__(self, other):
        """Return the set of the rows that are in exactly one."""
        return combined(self, other, IN_ONE_ALONE)

    def __invert__(self):
        """Return the set of all rows that are not in this one."""
        return Rows(self.steps, [not flag for flag in self.last])

    def mirrored(self):
        """Return the set of the rows that are in this one when they are reversed."""
        # A key tells of each state whether the row that was read leads from it, reversed, to a last one.
        found = explored(self.last, lambda flags: flags_before(self.steps, flags), MOST_STATES)
        if found is None:
            raise TooMany(MOST_STATES)
        keys, steps = found
        return Rows(steps, [key[0] for key in keys])

    def turned(self):
        """Return the set of the rows of this one with 0 and 1 exchanged."""
        return Rows([(one, zero) for zero, one in self.steps], self.last)

    def least(self):
        """Return the least row, or None."""
        return least_row(self.steps, self.last)

    def is_finite(self):
        """Return whether the set has finitely many rows."""
        return most_cells(self.steps, self.last) is not None

    def longest(self):
        """Return the number of cells of the longest row, or None if there is no such row."""
        length = most_cells(self.steps, self.last)
        return None if length == 0 else length

    def counted(self, length, *, modulo=None):
        """Return how many rows of this length are in the set, or the remainder of this number."""
        check_counting(length, modulo)
        return rows_counted(self.steps, self.last, length, modulo)

    def row(self, length, number):
        """Return the row with this number among the rows of this length, in the order of tuples."""
        if not is_within(length, 1, MOST_CELLS):
            raise NoNumber("length")
        table = rows_from_all(self.steps, self.last, length)
        if not is_within(number, 0, table[length][0] - 1):
            raise NoNumber("number")
        return row_numbered(self.steps, table, number)

    def place(self, row):
        """Return the number of the row among the rows of its length."""
        cells = bits_of(row)
        if cells not in self:
            raise NoRow(-1)
        return number_of_row(self.steps, rows_from_all(self.steps, self.last, len(cells)), cells)

    def listed(self, length):
        """Go through all rows of this length, in the order of tuples."""
        if not is_within(length, 1, MOST_LISTED):
            raise NoNumber("length")
        for row in rows_of_length(self.steps, self.last, length):
            yield row


def check_steps(steps):
    """Raise NoRows if the value, of any kind, is not a list or tuple of the steps of a machine."""
    if not isinstance(steps, (list, tuple)) or not 1 <= len(steps) <= MOST_STATES:
        raise NoRows("steps", -1)
    wrong = first_false([is_step(step, len(steps)) for step in steps])
    if wrong is not None:
        raise NoRows("steps", wrong)


def is_step(value, count):
    """Return whether the value, of any kind, is a list or tuple of two of so many states."""
    if not isinstance(value, (list, tuple)) or len(value) != 2:
        return False
    return is_within(value[0], 0, count - 1) and is_within(value[1], 0, count - 1)


def check_last(last, count):
    """Raise NoRows if the value, of any kind, is not a list or tuple of so many flags."""
    if not isinstance(last, (list, tuple)) or len(last) != count:
        raise NoRows("last", -1)
    wrong = first_false([isinstance(flag, bool) for flag in last])
    if wrong is not None:
        raise NoRows("last", wrong)


def combined(first, second, wanted):
    """Return the Rows of the rows of which (in the first set, in the second set) is one of the wanted pairs."""
    keys, steps = joined((first.steps, second.steps), TOGETHER, len(first) * len(second))
    last = [(first.last[one], second.last[two]) in wanted for one, two in keys]
    return least_rows(steps, last, MOST_STATES)


def least_rows(steps, last, most):
    """Return the Rows of a machine of any size, or raise TooMany if the least one has more than `most` states."""
    least = least_machine(steps, last, most)
    if least is None:
        raise TooMany(most)
    return Rows(least[0], least[1])


def is_part(first, second):
    """Return whether every row of the first set is in the second one."""
    keys, _ = joined((first.steps, second.steps), TOGETHER, len(first) * len(second))
    return True not in [first.last[one] and not second.last[two] for one, two in keys]


def flags_before(steps, flags):
    """Return, for the cells 0 and 1, the tuple of the flags of the states that the cell leads to."""
    return [tuple([flags[step[cell]] for step in steps]) for cell in (0, 1)]


def all_rows():
    """Return the set of all rows."""
    return Rows([(1, 1), (1, 1)], [False, True])


def no_rows():
    """Return the empty set."""
    return Rows([(0, 0)], [False])


def rows_of(some):
    """Return the set of the given rows."""
    if not isinstance(some, (list, tuple)) or len(some) > MOST_GIVEN:
        raise NoRow(-1)
    wrong = first_false([is_bits(row) and len(row) <= MOST_LISTED for row in some])
    if wrong is not None:
        raise NoRow(wrong)
    begun = {(): False}
    for row in some:
        for end in range(1, len(row)):
            begun.setdefault(tuple(row[:end]), False)
        begun[tuple(row)] = True
    states = {cells: state for state, cells in enumerate(begun)}
    # The last state is that of whatever is no beginning of a given row.
    dead = len(states)
    steps = [(states.get(cells + (0,), dead), states.get(cells + (1,), dead)) for cells in begun]
    return Rows(steps + [(dead, dead)], list(begun.values()) + [False])


def valued(rows, values, length, *, modulo=None):
    """Return how many rows with cells from 0 to values - 1 have all their levels in the set."""
    if not isinstance(rows, Rows):
        raise NoRows("rows", -1)
    if not is_within(values, LEAST_VALUES, MOST_VALUES):
        raise NoNumber("values")
    check_counting(length, modulo)
    letters = [[1 if cell >= value else 0 for value in range(1, values)] for cell in range(values)]
    found = joined([rows.steps] * (values - 1), letters, MOST_STATES)
    if found is None:
        raise TooMany(MOST_STATES)
    keys, steps = found
    last = [all([rows.last[state] for state in key]) for key in keys]
    return rows_counted(steps, last, length, modulo)
