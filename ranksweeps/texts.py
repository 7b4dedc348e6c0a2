"""Texts of chains and of sets of rows."""
from ranksweeps.chains import MOST_TIMES, Chain
from ranksweeps.errors import NoChain, NoRows, NoText
from ranksweeps.machines import MOST_STATES, Rows
from ranksweeps.sweeps import ENDS, MOST_WEIGHT, MOST_WEIGHTS, WAYS, Sweep

# How many parts a chain of each kind has.
PARTS = {"sweep": 0, "then": 2, "higher": 2, "lower": 2, "turned": 1, "mirrored": 1, "times": 1}
# How many words stand between the kind of a chain and its parts.
MORE_WORDS = {"sweep": 5, "times": 1}


def chain_text(chain):
    """Return the text of a chain."""
    if not isinstance(chain, Chain):
        raise NoChain("chain")
    return " ".join(words_of(chain))


def read_chain(text):
    """Return the chain with this text."""
    if not isinstance(text, str):
        raise NoText(-1)
    words = text.split(" ")
    check_words(words)
    return chain_of(words)


def rows_text(rows):
    """Return the text of a set of rows."""
    if not isinstance(rows, Rows):
        raise NoRows("rows", -1)
    return "\n".join([line_of(state, rows) for state in range(len(rows))])


def read_rows(text):
    """Return the set of rows of the machine with this text."""
    if not isinstance(text, str):
        raise NoText(-1)
    lines = text.split("\n")
    numbers = {str(number): number for number in range(len(lines))}
    steps = []
    last = []
    for index, line in enumerate(lines):
        words = line.split(" ")
        if index == MOST_STATES or not is_line(words, index, numbers):
            raise NoText(index)
        steps.append((numbers[words[1]], numbers[words[2]]))
        last.append(len(words) == 4)
    return Rows(steps, last)


def line_of(state, rows):
    """Return the line of a state."""
    zero, one = rows.steps[state]
    line = f"{state}: {zero} {one}"
    return f"{line} last" if rows.last[state] else line


def words_of(chain):
    """Return the list of the words of a chain."""
    words = [chain.kind]
    if chain.kind == "sweep":
        weights = ",".join([str(weight) for weight in chain.weights])
        words.extend([weights, str(chain.own), str(chain.rank), chain.ends, chain.way])
    if chain.kind == "times":
        words.append(str(chain.times))
    for part in chain.parts:
        words.extend(words_of(part))
    return words


def check_words(words):
    """Raise NoText with the index of the first word that can't stand at its place, or behind them if more are wanted.

    A text may be deeper than functions may call each other, so chains that are still to come are only counted.
    """
    wanted = 1
    index = 0
    while wanted > 0:
        if index == len(words) or words[index] not in PARTS:
            raise NoText(index)
        kind = words[index]
        wanted = wanted - 1 + PARTS[kind]
        behind = words[index + 1:index + 1 + MORE_WORDS.get(kind, 0)]
        right = right_words(kind, behind)
        if right < MORE_WORDS.get(kind, 0):
            raise NoText(index + 1 + right)
        index = index + 1 + right
    if index < len(words):
        raise NoText(index)


def right_words(kind, words):
    """Return how many of the words behind the kind of a chain can stand there, up to the first one that can't."""
    if kind == "times":
        return 1 if words and words[0] in texts_of(0, MOST_TIMES) else 0
    if kind != "sweep" or not words or not are_weights(words[0]):
        return 0
    weights = weights_of(words[0])
    choices = (texts_of(0, len(weights) - 1), texts_of(1, sum(weights)), ENDS, WAYS)
    right = 1
    while right < len(words) and words[right] in choices[right - 1]:
        right = right + 1
    return right


def are_weights(word):
    """Return whether a word is the text of the weights of a sweep."""
    digits = word.split(",")
    right = len(digits) <= MOST_WEIGHTS and all([digit in texts_of(0, MOST_WEIGHT) for digit in digits])
    return right and sum(weights_of(word)) > 0


def weights_of(word):
    """Return the list of the weights that a word tells."""
    return [int(digit) for digit in word.split(",")]


def texts_of(least, most):
    """Return the list of the texts of these numbers: they have no sign and no leading zero."""
    return [str(number) for number in range(least, most + 1)]


def chain_of(words):
    """Return the chain of words of which each can stand at its place."""
    # The chains that have begun: for each the words up to its parts, and the parts that have ended.
    begun = []
    index = 0
    while True:
        kind = words[index]
        more = MORE_WORDS.get(kind, 0)
        begun.append((words[index:index + 1 + more], []))
        index = index + 1 + more
        while len(begun[-1][1]) == PARTS[begun[-1][0][0]]:
            own, parts = begun.pop()
            chain = chain_with(own, parts)
            if not begun:
                return chain
            begun[-1][1].append(chain)


def chain_with(words, parts):
    """Return the chain with these own words and these parts."""
    kind = words[0]
    if kind == "sweep":
        return Sweep(weights_of(words[1]), int(words[3]), own=int(words[2]), ends=words[4], way=words[5])
    if kind == "then":
        return parts[0] >> parts[1]
    if kind == "higher":
        return parts[0] | parts[1]
    if kind == "lower":
        return parts[0] & parts[1]
    if kind == "turned":
        return ~parts[0]
    if kind == "mirrored":
        return parts[0].mirrored()
    return parts[0].repeated(int(words[1]))


def is_line(words, index, numbers):
    """Return whether the words are those of the line of a state, where the numbers are the texts of all states."""
    if len(words) != 3 and (len(words) != 4 or words[3] != "last"):
        return False
    return words[0] == f"{index}:" and words[1] in numbers and words[2] in numbers
