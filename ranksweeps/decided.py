"""What is decided about two chains for all rows, and the form of one chain."""
from ranksweeps.chains import MOST_REACH, MOST_WRITTEN, Chain, greater_reach, joint_direction, made
from ranksweeps.errors import NoChain, NoForm, NoNumber, TooLarge
from ranksweeps.filters import filtered
from ranksweeps.judging import Judge, judged_least, judged_rows
from ranksweeps.machines import MOST_STATES
from ranksweeps.readers import pair_reader
from ranksweeps.rows import is_number, is_within

PAIRS = ((0, 0), (0, 1), (1, 0), (1, 1))
WORDS = {(False, False): "alike", (True, False): "above", (False, True): "below", (True, True): "apart"}


def differing(p, q, *, most=MOST_STATES):
    """Return the Rows of all rows of which the chains make different rows."""
    check_question(p, q, most)
    return judged_rows(pair_reader(p, q), unlike_judge(), most)


def above(p, q, *, most=MOST_STATES):
    """Return the Rows of all rows of which p makes a 1 in some cell in which q makes a 0."""
    check_question(p, q, most)
    return judged_rows(pair_reader(p, q), finding_judge([(1, 0)]), most)


def parting(p, q):
    """Return (row, index): the least row of which the chains make different rows, and where; or None."""
    check_pair(p, q)
    row = judged_least(pair_reader(p, q), unlike_judge())
    return None if row is None else (row, first_unlike(made(p, row, filtered), made(q, row, filtered)))


def relation(p, q):
    """Return "alike", "above", "below" or "apart"."""
    check_pair(p, q)
    told = told_letters(pair_reader(p, q))
    return WORDS[((1, 0) in told, (0, 1) in told)]


def form(p, ahead, behind):
    """Return the list of the least sets of offsets that make a cell 1, for a cell with so many cells around it."""
    check_chain(p, "p")
    if not is_number(ahead) or ahead < 0:
        raise NoNumber("ahead")
    if not is_number(behind) or behind < 0:
        raise NoNumber("behind")
    if p.direction != "all":
        raise NoForm()
    return least_sets(p, min(ahead, int(p.reach[0])), min(behind, int(p.reach[1])))


def alike_forms(p, q):
    """Return whether two chains have the same forms near the ends and far from them."""
    check_pair(p, q)
    if p.direction != "all" or q.direction != "all":
        raise NoForm()
    left, right = greater_reach(p, q)
    return all([form(p, ahead, behind) == form(q, ahead, behind)
                for ahead in range(left + 1) for behind in range(right + 1)])


def check_chain(value, name):
    """Raise NoChain if the argument with this name is not a chain."""
    if not isinstance(value, Chain):
        raise NoChain(name)


def check_most(most):
    """Raise NoNumber if the greatest number of states is not one that is allowed."""
    if not is_within(most, 1, MOST_STATES):
        raise NoNumber("most")


def check_question(p, q, most):
    """Raise the first error of two chains and of the greatest number of states."""
    check_chain(p, "p")
    check_chain(q, "q")
    check_most(most)
    check_pair(p, q)


def check_pair(p, q):
    """Raise the first error of two chains that are to be compared."""
    check_chain(p, "p")
    check_chain(q, "q")
    broken = broken_together(p, q)
    if broken is not None:
        raise TooLarge(broken)


def broken_together(p, q):
    """Return the first limit that two chains break together, or None."""
    left, right = greater_reach(p, q)
    if left + right > MOST_REACH:
        return "reach"
    if p.written + q.written > MOST_WRITTEN:
        return "written"
    if joint_direction(p.direction, q.direction) is None:
        return "ways"
    return None


def finding_judge(wanted):
    """Return the judge of the rows of which one of the wanted pairs of cells is told."""
    return Judge({pair: (1 if pair in wanted else 0, 1) for pair in PAIRS}, (False, True))


def unlike_judge():
    """Return the judge of the rows of which unlike cells are told."""
    return finding_judge([(0, 1), (1, 0)])


def told_letters(reader):
    """Return the dict of all letters that a reader tells of some row."""
    told = {letter: True for letters in reader.letters + reader.ends for letter in letters}
    return told


def first_unlike(row, other):
    """Return the first index at which two rows of the same length differ."""
    return [one == two for one, two in zip(row, other)].index(False)


def least_sets(chain, ahead, behind):
    """Return the least sets for a cell with exactly so many cells before and behind it, within the reach."""
    offsets = list(range(-ahead, behind + 1))
    found = []
    chosen = [()]
    for _ in offsets:
        # Sets with one offset more, in the order of tuples.
        chosen = [some + (offset,) for some in chosen for offset in offsets if not some or offset > some[-1]]
        for some in chosen:
            if True not in [holds_all(some, least) for least in found] and is_made_1(chain, offsets, some):
                found.append(some)
    return found


def holds_all(some, others):
    """Return whether all offsets of the second set are in the first one."""
    return all([offset in some for offset in others])


def is_made_1(chain, offsets, some):
    """Return whether the cell with offset 0 becomes 1 when exactly the cells at some of the offsets are 1."""
    row = tuple([1 if offset in some else 0 for offset in offsets])
    return made(chain, row, filtered)[offsets.index(0)] == 1
