"""What a chain makes of one row when it is applied again and again."""
from ranksweeps.chains import Chain, made
from ranksweeps.errors import NoChain, NoNumber, TooMany
from ranksweeps.filters import filtered
from ranksweeps.rows import is_within, row_of

MOST_PASSES = 10000
MOST_NUMBER = 10 ** 30
FEW_PASSES = 1000


def stays(chain, row):
    """Return whether the chain makes the row itself."""
    cells = asked_row(chain, row)
    return made(chain, cells, filtered) == cells


def passes(chain, row, *, most=1000):
    """Return (ahead, round): after `ahead` passes the rows come back every `round` passes."""
    cells = asked_row(chain, row)
    if not is_within(most, 1, MOST_PASSES):
        raise NoNumber("most")
    path, ahead = path_of(chain, cells, most)
    if ahead is None:
        raise TooMany(most)
    return (ahead, len(path) - ahead)


def after(chain, row, number):
    """Return the row after so many passes."""
    cells = asked_row(chain, row)
    if not is_within(number, 0, MOST_NUMBER):
        raise NoNumber("number")
    path, ahead = path_of(chain, cells, min(int(number), FEW_PASSES))
    if number < len(path):
        return path[number]
    if ahead is None:
        raise TooMany(FEW_PASSES)
    return path[ahead + (number - ahead) % (len(path) - ahead)]


def asked_row(chain, row):
    """Return the row as a tuple, or raise the error of the first argument that is wrong."""
    if not isinstance(chain, Chain):
        raise NoChain("chain")
    return row_of(row)


def path_of(chain, row, most):
    """Return (path, ahead) for at most so many passes.

    The path is the list of the different rows, the first one ahead of all passes, and ahead is the index
    of the row that the last one of them leads to, or None if no row has come back.
    """
    path = [row]
    places = {row: 0}
    for number in range(1, most + 1):
        row = made(chain, row, filtered)
        if row in places:
            return path, places[row]
        places[row] = number
        path.append(row)
    return path, None
