"""What a chain makes of a set of rows, and the rows that it makes into a set."""
from ranksweeps.decided import check_chain, check_most
from ranksweeps.errors import NoForm, NoRow, NoRows, TooLarge
from ranksweeps.judging import Judge, judged_count, judged_least, judged_rows
from ranksweeps.machines import MOST_STATES, Rows, all_rows, least_rows
from ranksweeps.readers import passes_reader
from ranksweeps.rows import first_false, is_within
from ranksweeps.searches import explored, traced

MOST_SIZE = 2
MOST_REACH = 2
MOST_IMAGE_STATES = 4
MOST_SOURCE_STATES = 8
MOST_CELLS = 60

# No state of a reader: what stands in its place when the row has ended.
ENDED = -1


def images(p, rows, *, most=MOST_STATES):
    """Return the Rows of all rows that p makes of rows in the set."""
    check_chain(p, "p")
    check_rows(rows)
    check_most(most)
    check_small(p)
    check_states(rows, MOST_IMAGE_STATES)
    steps, last = made_machine(p, rows)
    return least_rows(steps, last, most)


def never(p, *, most=MOST_STATES):
    """Return the Rows of all rows that p makes of no row."""
    check_chain(p, "p")
    check_most(most)
    check_small(p)
    steps, last = made_machine(p, all_rows())
    return least_rows(steps, [not flag for flag in last], most)


def sources(p, rows, *, most=MOST_STATES):
    """Return the Rows of all rows of which p makes a row in the set."""
    check_chain(p, "p")
    check_rows(rows)
    check_most(most)
    check_states(rows, MOST_SOURCE_STATES)
    moves = {(cell,): [step[cell] for step in rows.steps] for cell in (0, 1)}
    return judged_rows(passes_reader(p, (1,)), Judge(moves, rows.last), most)


def source(p, row):
    """Return the first row, in the order of tuples, of which p makes the row, or None."""
    check_chain(p, "p")
    cells = short_bits(row)
    return judged_least(passes_reader(p, (1,)), one_row_judge(cells))


def ways(p, row):
    """Return how many rows p makes to the row."""
    check_chain(p, "p")
    cells = short_bits(row)
    return judged_count(passes_reader(p, (1,)), one_row_judge(cells), len(cells))


def kept(p, rows):
    """Return the least row in the set of which p makes a row that is not in it, or None."""
    check_chain(p, "p")
    check_rows(rows)
    check_states(rows, MOST_SOURCE_STATES)
    return judged_least(passes_reader(p, (0, 1)), leaving_judge(rows))


def check_rows(value):
    """Raise NoRows if the argument "rows" is no set of rows."""
    if not isinstance(value, Rows):
        raise NoRows("rows", -1)


def check_small(chain):
    """Raise the first error of a chain of which the images are too hard to tell."""
    if chain.direction != "all":
        raise NoForm()
    if chain.size > MOST_SIZE:
        raise TooLarge("size")
    if chain.reach[0] + chain.reach[1] > MOST_REACH:
        raise TooLarge("reach")


def check_states(rows, most):
    """Raise TooLarge if the set has more than `most` states."""
    if len(rows) > most:
        raise TooLarge("states")


def short_bits(value):
    """Return the row of at most 60 cells 0 and 1 as a tuple, or raise NoRow."""
    if not isinstance(value, (list, tuple)) or not 1 <= len(value) <= MOST_CELLS:
        raise NoRow(-1)
    wrong = first_false([is_within(cell, 0, 1) for cell in value])
    if wrong is not None:
        raise NoRow(wrong)
    return tuple(value)


def one_row_judge(row):
    """Return the judge of the letters (cell,) of just this row; its states count the cells that were right."""
    wrong = len(row) + 1
    moves = {(cell,): [index + 1 if own == cell else wrong for index, own in enumerate(row)] + [wrong, wrong]
             for cell in (0, 1)}
    return Judge(moves, [False for _ in row] + [True, False])


def leaving_judge(rows):
    """Return the judge of letters (cell of the row, cell that is made) of rows that leave the set.

    Its states are numbered by pairs of states of the set, the one behind the row coming first.
    """
    count = len(rows)
    moves = {(cell, own): [step[cell] * count + other[own] for step in rows.steps for other in rows.steps]
             for cell in (0, 1) for own in (0, 1)}
    return Judge(moves, [before and not behind for before in rows.last for behind in rows.last])


def made_machine(chain, rows):
    """Return (steps, last) of a machine of the rows that the chain makes of rows in the set.

    A row that is made may come of several rows, so its states are sets of guesses, each guess one bit of a number.
    """
    reader = passes_reader(chain, (1,))
    guesses, steps, told = traced((0, 0), lambda guess: guesses_behind(reader, rows, guess))
    bits = [1 << index for index in range(len(guesses))]
    masks = [[sum([bits[target] for target in set_of(targets, cells, cell)]) for cell in (0, 1)]
             for targets, cells in zip(steps, told)]
    some, steps = explored(1, lambda mask: masks_behind(masks, mask))
    ended = sum([bit for bit, guess in zip(bits, guesses) if guess == (ENDED,)])
    return steps, [(mask & ended) > 0 for mask in some]


def guesses_behind(reader, rows, guess):
    """Return the list of pairs (guess, cell): what may be so behind one more cell that is made.

    A guess is a pair of states, of the reader and of the set, which a row may have led to; or, if this row ends
    here, ENDED and the cells that are still to be made.
    """
    if guess[0] == ENDED:
        return [((ENDED,) + guess[2:], guess[1])] if len(guess) > 1 else []
    state, own = guess
    found = []
    for cell in (0, 1):
        target, behind = reader.steps[state][cell], rows.steps[own][cell]
        fresh = [(target, behind)]
        if rows.last[behind]:
            fresh.append((ENDED,) + tuple([letter[0] for letter in reader.ends[target]]))
        letter = reader.letters[state][cell]
        for other in fresh:
            # At the beginning of the row, cells are read before the first one is made.
            found.extend(guesses_behind(reader, rows, other) if letter is None else [(other, letter[0])])
    return found


def set_of(targets, cells, wanted):
    """Return the list of the different targets that stand beside the wanted cell."""
    return list({target: True for target, cell in zip(targets, cells) if cell == wanted})


def masks_behind(masks, mask):
    """Return the sets of guesses, as numbers, that the cells 0 and 1 lead to."""
    zero = one = 0
    for index, (with_zero, with_one) in enumerate(masks):
        if (mask >> index) & 1 == 1:
            zero = zero | with_zero
            one = one | with_one
    return [zero, one]
