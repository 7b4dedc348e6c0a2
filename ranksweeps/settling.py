"""Rows that a chain makes to themselves, at once or after some passes, and rows that passes still change."""
from ranksweeps.decided import check_chain, check_most, unlike_judge
from ranksweeps.errors import NoNumber
from ranksweeps.judging import Judge, judged_least, judged_rows
from ranksweeps.machines import MOST_STATES, valued
from ranksweeps.readers import passes_reader
from ranksweeps.rows import is_within

MOST_PERIOD = 4
MOST_PASSES = 3

# The greatest smaller number of passes that comes back wherever one of the smaller numbers and the period both do.
SMALLER_PERIOD = {2: 1, 3: 1, 4: 2}

# The states of a judge of rows that swing: whether the cells behind the period are those of the row, and whether
# those behind the smaller period were so up to now.
SMALLER_TOO = 0
PERIOD_ALONE = 1
NOT_BACK = 2


def staying(p, *, most=MOST_STATES):
    """Return the Rows of all rows that p makes to themselves."""
    check_chain(p, "p")
    check_most(most)
    return rows_that_stay(p, most)


def swinging(p, period, *, most=MOST_STATES):
    """Return the Rows of all rows that come back after `period` passes of p, and not earlier."""
    check_chain(p, "p")
    if not is_within(period, 1, MOST_PERIOD):
        raise NoNumber("period")
    check_most(most)
    check_passes(p, period)
    if period == 1:
        return rows_that_stay(p, most)
    return rows_that_swing(p, period, most)


def unsettled(p, passes, *, most=MOST_STATES):
    """Return the Rows of all rows that the pass behind so many passes of p still changes."""
    check_chain(p, "p")
    check_settling(passes)
    check_most(most)
    check_passes(p, passes + 1)
    return judged_rows(passes_reader(p, (passes, passes + 1)), unlike_judge(), most)


def settles(p, passes):
    """Return the least row that the pass behind so many passes of p still changes, or None."""
    check_chain(p, "p")
    check_settling(passes)
    check_passes(p, passes + 1)
    return judged_least(passes_reader(p, (passes, passes + 1)), unlike_judge())


def staying_count(p, values, length, *, modulo=None):
    """Return how many rows with cells from 0 to values - 1 p makes to themselves."""
    return valued(staying(p), values, length, modulo=modulo)


def check_settling(passes):
    """Raise NoNumber if this is not a number of passes that may be asked about."""
    if not is_within(passes, 0, MOST_PASSES):
        raise NoNumber("passes")


def check_passes(chain, number):
    """Raise TooLarge if so many passes of the chain break a limit, as making their chain does."""
    chain.repeated(number)


def rows_that_stay(chain, most):
    """Return the Rows of all rows that the chain makes to themselves."""
    differ = unlike_judge()
    return judged_rows(passes_reader(chain, (0, 1)), Judge(differ.moves, (True, False)), most)


def rows_that_swing(chain, period, most):
    """Return the Rows of all rows that come back after this period, from 2 on, and not earlier."""
    return judged_rows(passes_reader(chain, (0, SMALLER_PERIOD[period], period)), swinging_judge(), most)


def swinging_judge():
    """Return the judge of letters (cell of the row, cell behind the smaller period, cell behind the period)."""
    moves = {}
    for cell in (0, 1):
        for smaller in (0, 1):
            for whole in (0, 1):
                if cell != whole:
                    moves[(cell, smaller, whole)] = (NOT_BACK, NOT_BACK, NOT_BACK)
                elif cell != smaller:
                    moves[(cell, smaller, whole)] = (PERIOD_ALONE, PERIOD_ALONE, NOT_BACK)
                else:
                    moves[(cell, smaller, whole)] = (SMALLER_TOO, PERIOD_ALONE, NOT_BACK)
    return Judge(moves, (False, True, False))
