"""How many rows a machine takes, and which ones they are.

Here a machine is as in ranksweeps.least: steps and flags, with state 0 as its start, and with any number of letters.
"""
from ranksweeps.errors import NoNumber, TooLarge
from ranksweeps.rows import is_within

MOST_LENGTH = 10 ** 30
MOST_MODULO = 10 ** 9
FEW_CELLS = 1000
FEW_STATES = 16


def check_counting(length, modulo):
    """Raise NoNumber if rows of this length cannot be counted with this modulo."""
    if not is_within(length, 1, MOST_LENGTH):
        raise NoNumber("length")
    if modulo is None and length > FEW_CELLS:
        raise NoNumber("modulo")
    if modulo is not None and not is_within(modulo, 1, MOST_MODULO):
        raise NoNumber("modulo")


def rows_counted(steps, last, length, modulo):
    """Return how many rows of this length are taken, or the remainder of it if modulo is not None."""
    counts = rows_from(last)
    if length <= FEW_CELLS:
        for _ in range(length):
            counts = rows_from_before(steps, counts)
        return counts[0] if modulo is None else counts[0] % modulo
    if len(steps) > FEW_STATES:
        raise TooLarge("states")
    return far_counted(steps, counts, length, modulo)


def rows_from(last):
    """Return the list that tells of each state how many rows of no cells lead from it to a last one."""
    return [1 if flag else 0 for flag in last]


def rows_from_before(steps, counts):
    """Return the list for rows with one cell more."""
    return [sum([counts[target] for target in step]) for step in steps]


def far_counted(steps, counts, length, modulo):
    """Return the remainder for a length of any size, by 1, 2, 4, 8 .. cells at once."""
    column = [[count] for count in counts]
    table = [[step.count(target) for target in range(len(steps))] for step in steps]
    while length > 0:
        if length % 2 == 1:
            column = multiplied(table, column, modulo)
        table = multiplied(table, table, modulo)
        length = length // 2
    return column[0][0]


def multiplied(table, other, modulo):
    """Return the product of two tables of numbers, all items as remainders."""
    columns = list(zip(*other))
    return [[sum([one * two for one, two in zip(line, column)]) % modulo for column in columns] for line in table]


def rows_from_all(steps, last, length):
    """Return the list of the lists for 0, 1, .. and so many cells."""
    table = [rows_from(last)]
    for _ in range(length):
        table.append(rows_from_before(steps, table[-1]))
    return table


def row_numbered(steps, table, number):
    """Return the row with this number, where the table is that for its length."""
    state = 0
    cells = []
    for behind in reversed(range(len(table) - 1)):
        skipped = table[behind][steps[state][0]]
        cells.append(0 if number < skipped else 1)
        if number >= skipped:
            number = number - skipped
        state = steps[state][cells[-1]]
    return tuple(cells)


def number_of_row(steps, table, row):
    """Return the number of the row, where the table is that for its length."""
    state = 0
    number = 0
    for index, cell in enumerate(row):
        if cell == 1:
            number = number + table[len(row) - 1 - index][steps[state][0]]
        state = steps[state][cell]
    return number


def rows_of_length(steps, last, length):
    """Return the list of all rows of this length, in the order of tuples."""
    begun = [((), 0)]
    for _ in range(length):
        begun = [(cells + (cell,), steps[state][cell]) for cells, state in begun for cell in (0, 1)]
    return [cells for cells, state in begun if last[state]]


def least_row(steps, last):
    """Return the least row that a least machine takes, or None."""
    begun = {0: ()}
    # The states are numbered in breadth, so they stand in the order of the least rows that lead to them.
    for state, flag in enumerate(last):
        if flag:
            return begun[state]
        for cell in (0, 1):
            begun.setdefault(steps[state][cell], begun[state] + (cell,))
    return None


def most_cells(steps, last):
    """Return the length of the longest row that a least machine takes: 0 without any row, None without a longest."""
    reached = [0]
    for length in range(len(steps)):
        # In a least machine only one state leads to no last one.
        targets = [target for state in reached for target in steps[state] if not is_dead(steps, last, target)]
        if not targets:
            return length
        reached = list({target: True for target in targets})
    return None


def is_dead(steps, last, state):
    """Return whether a state of a least machine leads to no last state."""
    return not last[state] and steps[state] == (state, state)
