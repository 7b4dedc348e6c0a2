"""Rows of integers and rows of 0 and 1."""
from ranksweeps.errors import NoNumber, NoRow

MOST_CELLS = 200


def is_number(value):
    """Return whether the value is an integer, which True and False are not."""
    return isinstance(value, int) and not isinstance(value, bool)


def is_within(value, least, most):
    """Return whether the value is an integer from least to most."""
    return is_number(value) and least <= value <= most


def is_row(value):
    """Return whether the value, of any kind, is a row."""
    return row_fault(value) is None


def is_bits(value):
    """Return whether the value, of any kind, is a row of 0 and 1."""
    return bits_fault(value) is None


def row_fault(value):
    """Return None for a row, otherwise the index that NoRow tells."""
    if not has_cells(value):
        return -1
    return first_false([is_number(item) for item in value])


def bits_fault(value):
    """Return None for a row of 0 and 1, otherwise the index that NoRow tells."""
    if not has_cells(value):
        return -1
    return first_false([is_within(item, 0, 1) for item in value])


def has_cells(value):
    """Return whether the value is a list or tuple with as many items as a row may have."""
    return isinstance(value, (list, tuple)) and 1 <= len(value) <= MOST_CELLS


def first_false(flags):
    """Return the index of the first flag that is False, or None."""
    for index, flag in enumerate(flags):
        if not flag:
            return index
    return None


def row_of(value):
    """Return the row as a tuple, or raise NoRow."""
    fault = row_fault(value)
    if fault is not None:
        raise NoRow(fault)
    return tuple(value)


def bits_of(value):
    """Return the row of 0 and 1 as a tuple, or raise NoRow."""
    fault = bits_fault(value)
    if fault is not None:
        raise NoRow(fault)
    return tuple(value)


def level(row, value):
    """Return the row that has 1 where the cell is at least the value, and 0 elsewhere."""
    cells = row_of(row)
    if not is_number(value):
        raise NoNumber("value")
    return tuple([1 if cell >= value else 0 for cell in cells])


def levels(row):
    """Return the list of the different cells of the row, ascending."""
    # int changes no cell: it shows that what is sorted are plain numbers.
    return sorted(set([int(cell) for cell in row_of(row)]))
