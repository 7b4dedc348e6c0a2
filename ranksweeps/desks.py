"""A desk that holds chains by names, with undo, redo and trials."""
from ranksweeps.chains import Chain
from ranksweeps.decided import broken_together, relation
from ranksweeps.errors import NoChain, NoName, TooLarge, TooMany

LETTERS = "abcdefghijklmnopqrstuvwxyz"
MOST_LETTERS = 12
MOST_NAMES = 12

REVERSED_WORD = {"alike": "alike", "apart": "apart", "above": "below", "below": "above"}


class Desk:
    """Chains by names."""

    def __init__(self):
        # The chains by their names; each change puts another dict here, so that the old one can come back.
        self.chains = {}
        self.past = []
        self.future = []
        # The innermost trial that is under way, or None.
        self.trial = None

    def __setitem__(self, name, chain):
        """Put a chain under a name."""
        if not is_name(name):
            raise NoName(name)
        if not isinstance(chain, Chain):
            raise NoChain("chain")
        others = {key: self.chains[key] for key in self.chains if key != name}
        if len(others) == MOST_NAMES:
            raise TooMany(MOST_NAMES)
        for other in ascending(others):
            broken = broken_together(chain, others[other])
            if broken is not None:
                raise TooLarge(broken)
        others[name] = chain
        self.change(others)

    def __getitem__(self, name):
        """Return the chain under a name."""
        if name not in self:
            raise NoName(name)
        return self.chains[name]

    def __contains__(self, name):
        """Return whether a chain stands under the value, of any kind."""
        return is_name(name) and name in self.chains

    def __iter__(self):
        raise TypeError("a desk is not iterated over")

    def __len__(self):
        """Return the number of names."""
        return len(self.chains)

    def names(self):
        """Return the list of the names, ascending."""
        return ascending(self.chains)

    def drop(self, name):
        """Take a name away and return its chain."""
        chain = self[name]
        self.change({key: self.chains[key] for key in self.chains if key != name})
        return chain

    def alike(self):
        """Return the list of the lists of names whose chains are alike."""
        groups = []
        for name in self.names():
            places = [relation(self.chains[group[0]], self.chains[name]) == "alike" for group in groups]
            if True in places:
                groups[places.index(True)].append(name)
            else:
                groups.append([name])
        return groups

    def below(self):
        """Return the list of the pairs (a, b) of names of which the chain of a is alike to that of b or below it."""
        words = {}
        for index, name in enumerate(self.names()):
            for other in self.names()[index + 1:]:
                word = relation(self.chains[name], self.chains[other])
                words[(name, other)] = word
                words[(other, name)] = REVERSED_WORD[word]
        return [(name, other) for name in self.names() for other in self.names()
                if name != other and words[(name, other)] in ("alike", "below")]

    def undo(self):
        """Take the last change back and return True, or return False if there is none."""
        if self.trial is not None or not self.past:
            return False
        self.future.append(self.chains)
        self.chains = self.past.pop()
        return True

    def redo(self):
        """Make the change again that was taken back last and return True, or return False if there is none."""
        if self.trial is not None or not self.future:
            return False
        self.past.append(self.chains)
        self.chains = self.future.pop()
        return True

    def trying(self):
        """Return a new trial, for one use in a with statement."""
        return Trial(self)

    def attempt(self, step):
        """Call a function with the desk within a trial, and return what it returns."""
        with self.trying() as held:
            return step(held)

    def change(self, chains):
        """Hold these chains from now on. Within a trial, the whole trial is the change."""
        if self.trial is None:
            self.past.append(self.chains)
            self.future.clear()
        self.chains = chains


class Trial:
    """A change of a desk that is taken back as a whole if an error leaves it."""

    def __init__(self, desk):
        self.desk = desk
        self.past = desk.past
        self.future = desk.future
        self.outer = None
        self.before = {}

    def __enter__(self):
        self.outer = self.desk.trial
        self.before = self.desk.chains
        self.desk.trial = self
        return self.desk

    def __exit__(self, kind, value, trace):
        self.desk.trial = self.outer
        if kind is not None:
            self.desk.chains = self.before
        if kind is None and self.outer is None:
            self.past.append(self.before)
            self.future.clear()


def is_name(value):
    """Return whether the value, of any kind, is a name."""
    if not isinstance(value, str) or not 1 <= len(value) <= MOST_LETTERS:
        return False
    return all([letter in LETTERS for letter in value])


def ascending(chains):
    """Return the list of the names of chains, ascending."""
    return sorted([str(name) for name in chains])
