"""What one sweep writes into the cells of a row."""


def filtered(sweep, row):
    """Return the row that the sweep makes of a tuple of integers, which may be of any length."""
    left, right = sweep.reach
    end = left + len(row)
    # Cells beyond the ends stand here too, so that they keep the values from before the sweep.
    cells = [row[0]] * left + list(row) + [row[-1]] * right
    # Where cells are written one after the other, the next ones read what was written.
    written = list(cells) if sweep.way == "all" else cells
    offsets = counted_offsets(sweep)
    for place in writing_order(sweep.way, left, end):
        near = offsets
        if sweep.ends == "cut" and not 2 * left <= place < end - right:
            near = [offset for offset in offsets if left <= place + offset < end]
        if near:
            values = sorted([cells[place + offset] for offset in near], key=int)
            written[place] = values[min(sweep.rank, len(values)) - 1]
    return tuple(written[left:end])


def counted_offsets(sweep):
    """Return the list of the offsets of the neighbours, each as often as it counts."""
    return [index - sweep.own for index, weight in enumerate(sweep.weights) for _ in range(weight)]


def writing_order(way, start, end):
    """Return the list of the places from start to end, without end, in the order in which they are written."""
    if way == "back":
        return list(reversed(range(start, end)))
    return list(range(start, end))
