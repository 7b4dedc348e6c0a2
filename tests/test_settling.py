"""Point [9]: rows that stay, swing and settle; [1] for it."""
import itertools
import unittest

from asked import (KEEP, LEAST, MEDIAN, MOST, MOVE, NO_CHAINS, SWING, WIDE, WIDE_ALL, WIDE_BACK, WIDE_ON, WRONG_MOST,
                   Clock, chains_and_sweeps, long_rows, passed)
from by_words import chained
from cases import Case
from ranksweeps.decided import differing
from ranksweeps.errors import NoChain, NoNumber, TooLarge, TooMany
from ranksweeps.machines import all_rows, no_rows, valued
from ranksweeps.settling import rows_that_swing, settles, staying, staying_count, swinging, unsettled
from ranksweeps.sweeps import Sweep
from row_sets import SHORT
from values import NO_NUMBERS

GREAT = 10 ** 30
ON = Sweep((1, 0, 1), 2, way="on")
BACK = Sweep((1, 0, 1), 1, way="back")
# The first cells go round: cell 0 takes the last of them, each other cell takes the one before it.
ROUND_2 = Sweep((3, 0, 1), 2, own=1, ends="cut")
ROUND_3 = Sweep((3, 0, 0, 1), 2, own=1, ends="cut")
ROUND_4 = Sweep((3, 0, 0, 0, 1), 2, own=1, ends="cut")
NOT_FINITE = Sweep((1, 1), 2, own=1)            # a 1 goes on and on, in longer and longer rows
# At least as deep as chains may be: no pass of it can be made into a chain.
DEEP = KEEP
while DEEP.depth < 20:
    DEEP = ~DEEP


def swings(chain, row, period):
    """Whether so many passes make the row itself, and no fewer ones do."""
    path = [passed(chain, row, number) for number in range(1, period + 1)]
    return path[-1] == row and row not in path[:-1]


def limit_of(chain, number):
    """The part of TooLarge that so many passes raise, or None."""
    try:
        chain ** number
    except TooLarge as error:
        return error.part
    return None


class Examples(Case):
    def test_the_examples_of_the_document(self):
        p = Sweep((1, 1, 1), 2)
        rows = staying(p)
        self.assertEqual([rows.counted(5), (0, 1, 0) in rows], [16, False])
        self.assertEqual(swinging(Sweep((1, 0, 1), 1, ends="cut"), 2).least(), (0, 1))
        self.assertEqual([settles(p, 0), settles(p, 1)], [(0, 1, 0), (0, 1, 0, 1, 0)])

    def test_a_row_stays_exactly_if_no_inner_cell_differs_from_both_its_neighbours(self):
        rows = staying(MEDIAN)
        for row in SHORT:
            alone = [k for k in range(1, len(row) - 1) if row[k - 1] == row[k + 1] != row[k]]
            self.assertIs(row in rows, alone == [])


class WordByWord(Case):
    """Each function against all rows of 1 to 8 cells and some long ones."""

    def chains(self):
        for seed in range(3):
            yield from chains_and_sweeps(24, seed + 3)
        yield from (SWING, ROUND_2, ROUND_3, MEDIAN, MOVE, KEEP, ON, BACK, MOST, LEAST ** 0, NOT_FINITE, WIDE_ALL)

    def test_staying_swinging_unsettled_settles(self):
        directions = set()
        for number, chain in enumerate(self.chains()):
            directions.add(chain.direction)
            made = {row: chained(chain, row) for row in SHORT + long_rows(3, number)}
            self.same_rows(staying(chain), {row for row in made if made[row] == row}, made)
            for period in (1, 2, 3, 4):
                self.swung(chain, period, made)
            for passes in (0, 1, 2, 3):
                self.settled(chain, passes, made)
        self.assertEqual(directions, {"all", "on", "back"})

    def same_rows(self, rows, expected, some):
        self.assertEqual({row for row in some if row in rows}, expected)

    def swung(self, chain, period, made):
        limit = limit_of(chain, period)
        if limit is not None:
            self.refused(TooLarge(limit), swinging, chain, period)
            return
        rows = swinging(chain, period)
        self.same_rows(rows, {row for row in made if swings(chain, row, period)}, made)
        if period == 1:
            self.assertEqual(rows, staying(chain))

    def settled(self, chain, passes, made):
        limit = limit_of(chain, passes + 1)
        if limit is not None:
            self.refused(TooLarge(limit), unsettled, chain, passes)
            self.refused(TooLarge(limit), settles, chain, passes)
            return
        rows = unsettled(chain, passes)
        last = {row: passed(chain, made[row], passes) for row in made}
        self.same_rows(rows, {row for row in made if passed(chain, row, passes) != last[row]}, made)
        least = settles(chain, passes)
        self.assertEqual(least, rows.least())
        self.assertIn(type(least), (tuple, type(None)))
        first = next((row for row in SHORT if row in rows), None)
        if first is not None or least is None:
            self.assertEqual(least, first)

    def test_periods_1_and_2(self):
        for chain in (SWING, ROUND_2):
            self.assertEqual([swinging(chain, 2).least(), swinging(chain, 1)], [(0, 1), staying(chain)])
        self.assertEqual(swinging(ROUND_2 >> SWING, 1), staying(ROUND_2 >> SWING))

    def test_periods_3_and_4(self):
        # No chain is known that swings so and may be asked; what stands behind the limits is asked without them.
        for chain, period in ((ROUND_3, 3), (ROUND_3, 2), (ROUND_4, 4), (ROUND_4, 2), (ROUND_2, 4), (SWING, 3)):
            rows = rows_that_swing(chain, period, 500)
            self.same_rows(rows, {row for row in SHORT if swings(chain, row, period)}, SHORT)
        self.assertEqual(rows_that_swing(ROUND_3, 3, 500).least(), (0, 0, 1))
        self.assertEqual(rows_that_swing(ROUND_4, 4, 500).least(), (0, 0, 0, 1))

    def test_levels(self):
        rows = [(3, 1, 2), (2, 2, 0, 1), (5, 5, 5), (0, 1, 1, 2, 2), (1, 2, 1, 2)]
        for chain in (MEDIAN, MOVE, ON, BACK, MOST):
            stay = staying(chain)
            for row in rows:
                levels = [tuple(int(cell >= v) for cell in row) for v in row]
                self.assertIs(chain(row) == row, all(some in stay for some in levels))


class Settles(Case):
    def test_none(self):
        self.assertIsNone(settles(KEEP, 0))
        self.assertIsNone(settles(MEDIAN ** 0, 3))
        self.assertIsNone(settles(Sweep((1, 0), 1, own=1, way="on"), 1))
        self.assertIsNone(settles(Sweep((1, 1), 2, own=0, way="back"), 1))
        self.assertEqual(unsettled(KEEP, 3), no_rows())

    def test_rows_that_settle_late(self):
        for passes in (0, 1, 2):
            self.assertEqual(settles(MEDIAN, passes), tuple(k % 2 for k in range(2 * passes + 3)))
            self.assertEqual(settles(NOT_FINITE, passes), (1,) + (0,) * (passes + 1))
            self.assertEqual(settles(NOT_FINITE.mirrored(), passes), (0,) * (passes + 1) + (1,))
        self.assertEqual(settles(MOVE, 3), (0, 1, 0, 0, 0))

    def test_settles_never_raises_too_many(self):
        chain = WIDE & WIDE_BACK
        with Clock(self):
            least = settles(chain, 0)
        self.assertEqual(least, next(row for row in SHORT if chained(chain, row) != row))


class Errors(Case):
    calls = ((staying, ()), (swinging, (2,)), (unsettled, (1,)))

    def test_wrong_chains(self):
        for value in (*NO_CHAINS, Sweep, [KEEP], no_rows()):
            for call, more in self.calls:
                self.refused(NoChain("p"), call, value, *more)
                self.refused(NoChain("p"), call, value, *[None for _ in more], most=0)
            self.refused(NoChain("p"), settles, value, -1)
            self.refused(NoChain("p"), staying_count, value, 0, 0)

    def test_wrong_numbers(self):
        for wrong in (0, -1, 5, GREAT, *NO_NUMBERS):
            self.refused(NoNumber("period"), swinging, KEEP, wrong)
            self.refused(NoNumber("period"), swinging, WIDE_ALL, wrong, most=0)
        for wrong in (-1, 4, -GREAT, *NO_NUMBERS):
            self.refused(NoNumber("passes"), unsettled, KEEP, wrong)
            self.refused(NoNumber("passes"), unsettled, WIDE_ALL, wrong, most=0)
            self.refused(NoNumber("passes"), settles, KEEP, wrong)
            self.refused(NoNumber("passes"), settles, DEEP, wrong)
        for most in WRONG_MOST:
            for call, more in self.calls:
                self.refused(NoNumber("most"), call, KEEP, *more, most=most)
                if more:
                    self.refused(NoNumber("most"), call, WIDE_ALL, *more, most=most)

    def test_too_large_part_by_part(self):
        size = Sweep((1,), 1)
        for _ in range(2):
            size = size >> KEEP
        written = Sweep((1, 1), 1, own=1, way="on")
        for chain, numbers in ((size, {3: "size", 4: "size"}), (DEEP, {k: "depth" for k in (1, 2, 3, 4)}),
                               (MEDIAN, {4: "reach"}), (written, {4: "written"}), (MEDIAN ** 2, {2: "reach"}),
                               (WIDE_ALL, {2: "reach", 3: "reach", 4: "reach"}),
                               (written ** 2, {2: "written", 3: "written", 4: "reach"})):
            for number, part in numbers.items():
                self.assertEqual(limit_of(chain, number), part)
                self.refused(TooLarge(part), swinging, chain, number)
                self.refused(TooLarge(part), swinging, chain, number, most=1)
                self.refused(TooLarge(part), unsettled, chain, number - 1)
                self.refused(TooLarge(part), unsettled, chain, number - 1, most=1)
                self.refused(TooLarge(part), settles, chain, number - 1)
        self.assertEqual(staying(DEEP), all_rows())
        self.assertEqual(len(staying(WIDE_ALL | WIDE_ON)), len(staying(WIDE_ALL | WIDE_ON, most=500)))

    def test_most_at_the_number_of_states_and_below(self):
        for seed in range(3):
            for chain in chains_and_sweeps(20, seed):
                for call, more in (*self.calls, (swinging, (1,)), (unsettled, (0,))):
                    try:
                        rows = call(chain, *more)
                    except TooLarge:
                        continue
                    self.assertEqual(call(chain, *more, most=len(rows)), rows)
                    if len(rows) > 1:
                        self.refused(TooMany(len(rows) - 1), call, chain, *more, most=len(rows) - 1)

    def test_the_limits_on_two_chains_together_are_not_asked(self):
        # Two passes and three passes of it have more than 3 written together.
        chain = Sweep((1, 1), 1, own=1, way="on")
        self.refused(TooLarge("written"), differing, chain ** 2, chain ** 3)
        self.assertEqual(unsettled(chain, 2), no_rows())


class StayingCount(Case):
    def by_hand(self, chain, values, length):
        return sum(chained(chain, row) == row for row in itertools.product(range(values), repeat=length))

    def test_all_rows_of_a_few_cells(self):
        # A row stays if each level stays.
        for chain in (MEDIAN, MOVE, KEEP, MOST, SWING, ON, BACK, NOT_FINITE, ~NOT_FINITE, Sweep((1, 2, 2), 3)):
            for values, most_cells in ((2, 7), (3, 5), (4, 4)):
                for length in range(1, most_cells + 1):
                    count = self.by_hand(chain, values, length)
                    self.assertEqual(staying_count(chain, values, length), count)
                    self.assertEqual(staying_count(chain, values, length, modulo=None), count)
                    self.assertEqual(staying_count(chain, values, length, modulo=7), count % 7)

    def test_great_lengths(self):
        for length in (1000, 1001, GREAT):
            self.assertEqual(staying_count(KEEP, 3, length, modulo=10 ** 9), pow(3, length, 10 ** 9))
            self.assertEqual(staying_count(MOVE, 4, length, modulo=10 ** 9), 4)
        self.assertEqual(staying_count(KEEP, 4, 1000), 4 ** 1000)
        # Rows of which no inner cell differs from both its neighbours: 2, 4, 6, 10, .., each as many as the two before.
        counts = [2, 2]
        for _ in range(1000):
            counts.append(counts[-1] + counts[-2])
        self.assertEqual(staying_count(MEDIAN, 2, 1000), counts[1000])
        self.assertEqual(staying_count(MEDIAN, 2, 1001, modulo=10 ** 9), counts[1001] % 10 ** 9)

    def test_errors_of_staying_come_first(self):
        self.refused(NoChain("p"), staying_count, None, 5, 0, modulo=0)
        self.refused(NoNumber("values"), staying_count, KEEP, 5, 0, modulo=0)
        self.refused(NoNumber("values"), staying_count, KEEP, True, 0, modulo=0)
        self.refused(NoNumber("length"), staying_count, KEEP, 2, 0, modulo=0)
        self.refused(NoNumber("length"), staying_count, KEEP, 2, GREAT + 1, modulo=5)
        self.refused(NoNumber("modulo"), staying_count, KEEP, 2, 1001)
        self.refused(NoNumber("modulo"), staying_count, KEEP, 2, 5, modulo=0)
        for values in (2, 3, 4):
            with self.subTest(values=values):
                self.same_error(WIDE_ALL, values, 1001, 7)
                self.same_error(MEDIAN, values, GREAT, 7)
                self.same_error(ON, values, 1000, None)

    def same_error(self, chain, values, length, modulo):
        try:
            count = valued(staying(chain), values, length, modulo=modulo)
        except (TooMany, TooLarge) as error:
            self.refused(error, staying_count, chain, values, length, modulo=modulo)
        else:
            self.assertEqual(staying_count(chain, values, length, modulo=modulo), count)


class Wide(Case):
    def test_the_widest_chains(self):
        chains = [WIDE, WIDE_ALL, WIDE_ALL | WIDE_ON, (WIDE_ALL & WIDE_ON).mirrored(), WIDE & WIDE_BACK, MEDIAN ** 3,
                  MEDIAN, SWING, WIDE_BACK, Sweep((1, 2, 1), 3, way="on"), Sweep((1, 1), 1, own=1, way="on")]
        for chain in chains:
            calls = [(staying, ()), *[(swinging, (k,)) for k in (1, 2, 3, 4)],
                     *[(unsettled, (k,)) for k in (0, 1, 2, 3)], *[(settles, (k,)) for k in (0, 1, 2, 3)],
                     (staying_count, (4, 1000))]
            for call, more in calls:
                with Clock(self):
                    try:
                        call(chain, *more)
                    except (TooLarge, TooMany):
                        pass


class General(Case):
    def test_by_name(self):
        self.assertEqual(staying(most=9, p=MOVE), staying(MOVE))
        self.assertEqual(swinging(most=9, period=2, p=SWING), swinging(SWING, 2))
        self.assertEqual(unsettled(most=9, passes=1, p=MOVE), unsettled(MOVE, 1))
        self.assertEqual(settles(passes=0, p=MEDIAN), (0, 1, 0))
        self.assertEqual(staying_count(modulo=5, length=5, values=2, p=MEDIAN), 1)
        for call, more in Errors.calls:
            with self.assertRaises(TypeError):
                call(KEEP, *more, 5)
        with self.assertRaises(TypeError):
            staying_count(KEEP, 2, 5, 7)

    def test_a_second_call_gives_the_same(self):
        for chain in (MEDIAN, SWING, ON, BACK):
            self.assertEqual(staying(chain), staying(chain))
            self.assertEqual(swinging(chain, 2), swinging(chain, 2))
            self.assertEqual(unsettled(chain, 1), unsettled(chain, 1))
            self.assertEqual(settles(chain, 1), settles(chain, 1))


if __name__ == "__main__":
    unittest.main()
