"""Point [5], and what point [1] says of it."""
import unittest

from by_words import chained, some_chains, some_rows
from cases import Case
from ranksweeps.errors import NoChain, NoNumber, NoRow, TooMany
from ranksweeps.passes import after, passes, stays
from ranksweeps.sweeps import Sweep
from values import KINDS, NO_LISTS, NO_NUMBERS

MEDIAN = Sweep((1, 1, 1), 2)
SWING = Sweep((1, 0, 1), 1, ends="cut")
ON = Sweep((1, 0), 1, own=1)
KEEP = Sweep((1,), 1)
# Six cells go round at the start of the row, and each round writes one cell behind them: with one 1 at the start,
# n cells need 6 * n - 26 passes.
SLOW = Sweep((2, 1), 1, own=0, way="back") | Sweep((3, 0, 0, 0, 0, 0, 1), 2, own=1, ends="cut")
# Cell 0 takes cell 2, all others take the cell before them: three cells go round.
ROUND_3 = Sweep((3, 0, 0, 1), 2, own=1, ends="cut")
NO_CHAINS = [kind for kind in KINDS if not isinstance(kind, Sweep)]


def slow_row(count, at=0):
    return (0,) * at + (1,) + (0,) * (count - at - 1)


def by_hand(chain, row):
    """The path of the different rows and the index that it comes back to."""
    path = [tuple(row)]
    while True:
        row = chained(chain, path[-1])
        if row in path:
            return path, path.index(row)
        path.append(row)


class Stays(Case):
    def test_stays(self):
        self.assertIs(stays(MEDIAN, (0, 0, 1, 1)), True)
        self.assertIs(stays(MEDIAN, (0, 1, 0, 1)), False)
        self.assertIs(stays(MEDIAN, [5, 5, 4, 4, 0]), True)
        self.assertIs(stays(ON, (1, 1, 1, 2)), False)
        self.assertIs(stays(ON ** 0, (1, 2, 3)), True)
        self.assertIs(stays(ON, [7] * 200), True)
        self.assertIs(stays(ON, [7] * 199 + [8]), False)

    def test_word_by_word(self):
        for chain in some_chains(60, 1):
            for row in some_rows(10, 2, 5, 2):
                self.assertIs(stays(chain, row), chained(chain, row) == row)


class Passes(Case):
    def test_the_examples_of_the_document(self):
        self.assertEqual(passes(Sweep((1, 1, 1), 2), (0, 1, 0, 1)), (1, 1))
        self.assertEqual(passes(Sweep((1, 0, 1), 1, ends="cut"), (0, 1, 0, 1)), (0, 2))

    def test_a_row_that_stays(self):
        self.assertEqual(passes(MEDIAN, (0, 0, 1, 1)), (0, 1))
        self.assertEqual(passes(KEEP, [3]), (0, 1))
        self.assertEqual(passes(ON ** 0, range_row(200)), (0, 1))

    def test_a_long_way_ahead(self):
        self.assertEqual(passes(ON, range_row(200)), (199, 1))
        self.assertEqual(passes(ON, list(range_row(200))), (199, 1))
        self.assertEqual(passes(SLOW, slow_row(100)), (574, 1))
        self.assertEqual(passes(SLOW, slow_row(200), most=10000), (1174, 1))

    def test_in_a_round(self):
        self.assertEqual(passes(ROUND_3, (1, 2, 3)), (0, 3))
        self.assertEqual(passes(ROUND_3, (1, 2, 3, 9)), (1, 3))
        self.assertEqual(passes(ROUND_3, (1, 2, 3, 9, 9, 9, 9)), (4, 3))
        self.assertEqual(passes(ROUND_3, (5, 5, 5, 9, 9, 9, 9)), (4, 1))

    def test_word_by_word(self):
        found = set()
        for chain in [*some_chains(120, 3), *some_chains(40, 4, ("all", "back")), ROUND_3, SWING, SLOW, ON]:
            for row in some_rows(4, chain.size, 8, 5):
                path, ahead = by_hand(chain, row)
                result = (ahead, len(path) - ahead)
                found.add(result)
                self.assertEqual(passes(chain, row), result)
                self.assertEqual(passes(chain, row, most=len(path)), result)
                if len(path) > 1:
                    self.refused(TooMany(len(path) - 1), passes, chain, row, most=len(path) - 1)
        self.assertGreater(len(found), 8)

    def test_most(self):
        self.assertEqual(passes(MEDIAN, (0, 0, 1, 1), most=1), (0, 1))
        self.assertEqual(passes(SWING, (0, 1, 0, 1), most=2), (0, 2))
        self.refused(TooMany(1), passes, SWING, (0, 1, 0, 1), most=1)
        self.assertEqual(passes(ON, range_row(200), most=200), (199, 1))
        self.refused(TooMany(199), passes, ON, range_row(200), most=199)
        self.assertEqual(passes(SLOW, slow_row(200), most=1175), (1174, 1))
        self.refused(TooMany(1174), passes, SLOW, slow_row(200), most=1174)

    def test_the_usual_most_is_1000(self):
        self.assertEqual(passes(SLOW, slow_row(171, 1)), (999, 1))
        self.refused(TooMany(1000), passes, SLOW, slow_row(171))
        self.assertEqual(passes(SLOW, slow_row(171), most=1001), (1000, 1))
        self.refused(TooMany(1000), passes, SLOW, slow_row(171), most=1000)

    def test_wrong_most(self):
        for most in (0, -1, 10001, 10 ** 40, -10 ** 40, *NO_NUMBERS, [1], (1,)):
            self.refused(NoNumber("most"), passes, ON, (1, 2, 3), most=most)

    def test_the_result_is_a_tuple_of_integers(self):
        for result in (passes(ON, (1, 2, 3)), passes(KEEP, [1])):
            self.assertEqual([type(result), *map(type, result)], [tuple, int, int])


class After(Case):
    def test_number_0_and_1(self):
        self.assertEqual(after(ON, (1, 2, 3), 0), (1, 2, 3))
        self.assertEqual(after(ON, [1, 2, 3], 0), (1, 2, 3))
        self.assertEqual(after(ON, (1, 2, 3), 1), (1, 1, 2))
        self.assertEqual(after(KEEP, (1,), 0), (1,))

    def test_number_by_number(self):
        for chain in [*some_chains(60, 5), ROUND_3, SWING, ON]:
            for row in some_rows(3, chain.size, 8, 5):
                step = row
                for number in range(12):
                    self.assertEqual(after(chain, row, number), step)
                    step = chained(chain, step)

    def test_great_numbers(self):
        rounds = [(1, 2, 3, 1, 2, 3), (3, 1, 2, 3, 1, 2), (2, 3, 1, 2, 3, 1)]
        for number in (5, 6, 7, 999, 1000, 1001, 1002, 10 ** 9, 10 ** 30 - 2, 10 ** 30 - 1, 10 ** 30):
            self.assertEqual(after(ROUND_3, (1, 2, 3, 7, 8, 9), number), rounds[number % 3])
            self.assertEqual(after(ON, range_row(5), number), (0,) * 5)
            self.assertEqual(after(SWING, (0, 1, 0, 1), number), ((0, 1, 0, 1), (1, 0, 1, 0))[number % 2])
        self.assertEqual(after(ON, range_row(200), 198), (*(0,) * 199, 1))
        self.assertEqual(after(ON, range_row(200), 199), (0,) * 200)
        self.assertEqual(after(ON, range_row(200), 10 ** 30), (0,) * 200)

    def test_more_than_1000_passes(self):
        self.assertEqual(after(SLOW, slow_row(171, 1), 10 ** 30), (1,) * 171)
        self.assertEqual(after(SLOW, slow_row(171), 1000), (1,) * 171)
        self.assertNotEqual(after(SLOW, slow_row(171), 999), (1,) * 171)
        for number in (1001, 10 ** 30):
            self.refused(TooMany(1000), after, SLOW, slow_row(171), number)

    def test_up_to_1000_there_is_no_too_many(self):
        row = slow_row(200)
        for number in range(1001):
            if number in (2, 500, 1000):
                self.assertEqual(after(SLOW, slow_row(200), number), row)
            row = SLOW(row)

    def test_wrong_number(self):
        for number in (-1, 10 ** 30 + 1, -10 ** 30, 10 ** 40, *NO_NUMBERS, [1], (1,)):
            self.refused(NoNumber("number"), after, ON, (1, 2, 3), number)


class General(Case):
    calls = ((stays, {}), (passes, {"most": 0}), (after, {"number": -1}))

    def test_no_chain_first(self):
        for value in [*NO_CHAINS, Sweep, (ON,), [ON]]:
            for call, last in self.calls:
                self.refused(NoChain("chain"), call, value, (), **last)
                self.refused(NoChain("chain"), call, chain=value, row=[None], **last)
        self.refused(NoChain("chain"), stays, None, (1, 2))
        self.refused(NoChain("chain"), passes, None, (1, 2))
        self.refused(NoChain("chain"), after, None, (1, 2), 3)

    def test_no_row_next(self):
        for call, last in self.calls:
            for value in (*NO_LISTS, [], (), [0] * 201, [None] * 201):
                self.refused(NoRow(-1), call, ON, value, **last)
            for item in (*NO_NUMBERS, [1], (1,)):
                self.refused(NoRow(0), call, ON, [item, 1, None], **last)
                self.refused(NoRow(2), call, ON, (1, 2, item), **last)
        self.refused(NoRow(1), passes, ON, (1, True))
        self.refused(NoRow(1), after, ON, (1, True), 5)

    def test_no_number_ahead_of_too_many(self):
        self.refused(NoNumber("most"), passes, SLOW, slow_row(200), most=0)
        self.refused(NoNumber("number"), after, SLOW, slow_row(200), 10 ** 30 + 1)

    def test_by_name(self):
        self.assertIs(stays(row=(1, 1), chain=ON), True)
        self.assertEqual(passes(most=5, row=[1, 2], chain=ON), (1, 1))
        self.assertEqual(after(number=1, row=[1, 2], chain=ON), (1, 1))
        with self.assertRaises(TypeError):
            passes(ON, (1, 2), 5)

    def test_arguments_stay_as_they_were(self):
        row = [1, 2, 3]
        self.assertEqual((stays(ON, row), passes(ON, row), after(ON, row, 2)), (False, (2, 1), (1, 1, 1)))
        self.assertEqual(row, [1, 2, 3])
        self.assertIs(type(after(ON, row, 0)), tuple)


def range_row(count):
    return tuple(range(count))


if __name__ == "__main__":
    unittest.main()
