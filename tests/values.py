"""Values that the tests of several points pass."""
from steps import step

# Values that are no integers, none of them a list or tuple with an item.
NO_NUMBERS = (True, False, None, "", "1", "word", b"1", 1.0, [], (), {}, {1: 2}, step((0,)))

# Values that are neither a list nor a tuple.
NO_LISTS = (None, True, False, 0, 1, -1, "", "01", b"01", 1.0, {0, 1}, frozenset((1,)), {0: 1}, range(3), step((0,)))

# Values of all kinds; the last integer has more digits than Python turns into a text.
KINDS = NO_NUMBERS + NO_LISTS + ([1, 2], (0, 1), [None], -7, 200, 10 ** 5000)
