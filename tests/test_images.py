"""Point [10]: what comes out of a chain, and what leads there; [1] for it."""
import random
import unittest

from asked import (KEEP, LEAST, MEDIAN, MOST, MOVE, NO_CHAINS, SWING, WIDE, WIDE_ALL, WIDE_BACK, WIDE_ON, WRONG_MOST,
                   Clock, chains_and_sweeps, long_rows, short_made)
from by_words import chained
from cases import Case
from ranksweeps.errors import NoChain, NoForm, NoNumber, NoRow, NoRows, TooLarge, TooMany
from ranksweeps.images import images, kept, never, source, sources, ways
from ranksweeps.machines import Rows, all_rows, no_rows, rows_of
from ranksweeps.sweeps import Sweep
from row_sets import SHORT, lengths_set, ones, short_rows, some_machines, some_sets, zeros
from values import KINDS, NO_LISTS, NO_NUMBERS

ENDS_1 = Rows([(0, 1), (0, 1)], [False, True])
FEW = Rows([(0, 1), (0, 2), (2, 2)], [True, True, False])
GREAT = 10 ** 30
NO_ROWS = [kind for kind in KINDS if not isinstance(kind, Rows)]
ON = Sweep((1, 0, 1), 2, way="on")
BACK = Sweep((1, 0, 1), 1, way="back")
# In place from the end, with 3 cells written and all that may be read beside it.
WIDE_MANY = WIDE_BACK & Sweep((1, 1, 1, 1, 2, 1, 1), 4, own=0, ends="cut")


def sets_of(count, seed, most):
    """So many sets of at most so many states."""
    return [rows for rows in some_sets(3 * count, seed, most) if len(rows) <= most][:count]


def small_chains(count, seed):
    """So many chains of direction "all" with size and reach of at most 2, the same ones for the same seed."""
    chance = random.Random(seed)
    found = []
    while len(found) < count:
        some = []
        for _ in range(2):
            left, right = chance.choice(((0, 0), (0, 1), (1, 0), (1, 1), (0, 2), (2, 0)))
            weights = [chance.choice((0, 1, 1, 2, 3)) for _ in range(left + right + 1)]
            rank = chance.randint(1, max(1, sum(weights)))
            if sum(weights):
                some.append(Sweep(weights, rank, own=left, ends=chance.choice(("held", "cut"))))
        if len(some) == 2:
            p, q = some
            chain = chance.choice((p, ~p, p.mirrored(), p ** 0, p ** 1, p ** 2 if sum(p.reach) < 2 else p,
                                   p >> q if sum(p.reach) + sum(q.reach) <= 2 else q, p & q, p | q, ~(p | q)))
            if sum(chain.reach) <= 2:
                found.append(chain)
    return found


class Examples(Case):
    def test_the_examples_of_the_document(self):
        self.assertEqual(never(Sweep((1, 1, 1), 3)).least(), (0, 1))
        p = Sweep((1, 1, 1), 3)
        self.assertEqual([source(p, (1, 1, 0)), ways(p, (1, 1, 0)), ways(p, (1, 1, 1))], [(1, 0, 0), 1, 5])
        self.assertEqual(kept(Sweep((1, 1, 1), 3), rows_of([(0, 0), (0, 1)])), (0, 1))

    def test_by_hand(self):
        # What moves on leaves two equal cells at the front.
        self.assertEqual([never(MOVE).counted(n) for n in (1, 2, 3, 4)], [0, 2, 4, 8])
        self.assertEqual(images(MOVE, ENDS_1), images(MOVE, all_rows()) - rows_of([(0,)]))
        self.assertEqual(images(KEEP, FEW), FEW)
        self.assertEqual(sources(KEEP, FEW), FEW)
        self.assertEqual(sources(MOVE, ENDS_1).least(), (1,))
        self.assertEqual([images(MEDIAN, no_rows()), sources(MEDIAN, no_rows())], [no_rows(), no_rows()])
        self.assertEqual([never(KEEP), sources(WIDE_ALL, all_rows())], [no_rows(), all_rows()])
        self.assertEqual([kept(MEDIAN, no_rows()), kept(MEDIAN, all_rows()), kept(MOVE, ENDS_1)], [None, None, (0, 1)])


class Images(Case):
    def test_word_by_word(self):
        sizes = set()
        for number, chain in enumerate(small_chains(70, 1)):
            made = short_made(chain)
            for rows in sets_of(5, number, 4) + [no_rows(), all_rows(), zeros(2), lengths_set(2)]:
                found = images(chain, rows)
                sizes.add(len(found))
                self.assertEqual(short_rows(found), {made[row] for row in SHORT if row in rows})
            missing = never(chain)
            self.assertEqual(short_rows(missing), set(SHORT) - set(made.values()))
            self.assertEqual(missing, ~images(chain, all_rows()))
            for row in long_rows(5, number):
                self.assertNotIn(chain(row[:200]), missing)
        self.assertGreater(len(sizes), 15)

    def test_most_at_the_number_of_states_and_below(self):
        for number, chain in enumerate(small_chains(40, 2)):
            for call, more in ((never, ()), *[(images, (rows,)) for rows in sets_of(3, number, 4)]):
                found = call(chain, *more)
                self.assertEqual(call(chain, *more, most=len(found)), found)
                if len(found) > 1:
                    self.refused(TooMany(len(found) - 1), call, chain, *more, most=len(found) - 1)

    def test_many_states(self):
        rows = Rows([(1, 2), (0, 1), (3, 0), (2, 3)], [False, False, False, True])
        with Clock(self):
            found = images(Sweep((1, 2, 3), 2, own=0, ends="cut") | Sweep((3, 3, 2), 5, own=0, ends="cut"), rows)
        self.assertEqual(len(found), 332)

    def test_limits(self):
        two = KEEP >> KEEP
        four = rows_of([(0,), (1, 1)])
        self.assertEqual(len(four), 4)
        five = rows_of([(0,), (1, 1, 1)])
        self.assertEqual(len(five), 5)
        far = Sweep((1, 0, 0), 1, own=2)
        further = Sweep((1, 0, 0, 0), 1, own=3)
        images(two, four)
        images(far, four)
        never(far)
        for call, more in ((images, (four,)), (never, ())):
            self.refused(TooLarge("size"), call, two >> KEEP, *more)
            self.refused(TooLarge("size"), call, KEEP ** 3, *more)
            self.refused(TooLarge("size"), call, further >> two, *more)
            self.refused(TooLarge("reach"), call, further, *more)
            self.refused(TooLarge("reach"), call, MEDIAN >> Sweep((0, 1), 1, own=0), *more)
            for chain in (ON, BACK, ON ** 3, KEEP >> Sweep((1,), 1, way="on")):
                self.refused(NoForm(), call, chain, *more)
        self.refused(TooLarge("states"), images, two, five)
        self.refused(TooLarge("reach"), images, further, five)
        self.refused(TooLarge("size"), images, further ** 1 >> two, five)


class Sources(Case):
    def test_word_by_word(self):
        directions = set()
        for seed in range(3):
            for number, chain in enumerate(chains_and_sweeps(24, seed)):
                directions.add(chain.direction)
                made = short_made(chain)
                for rows in sets_of(3, number, 8) + [lengths_set(3), rows_of([(1, 0), (0, 1, 1)])]:
                    found = sources(chain, rows)
                    self.assertEqual(short_rows(found), {row for row in SHORT if made[row] in rows})
                    for row in long_rows(2, number):
                        self.assertIs(row in found, chained(chain, row) in rows)
                    self.assertEqual(sources(chain, rows, most=len(found)), found)
                    if len(found) > 1:
                        self.refused(TooMany(len(found) - 1), sources, chain, rows, most=len(found) - 1)
        self.assertEqual(directions, {"all", "on", "back"})

    def test_facts(self):
        asked = 0
        for number, chain in enumerate(small_chains(60, 3)):
            for rows in sets_of(4, number, 3):
                back = sources(chain, rows)
                if len(back) <= 4:
                    asked += 1
                    self.assertEqual(images(chain, back), rows & images(chain, all_rows()))
        self.assertGreater(asked, 60)

    def test_8_and_9_states(self):
        eight, nine = lengths_set(7), lengths_set(8)
        self.assertEqual([len(eight), len(nine)], [8, 9])
        for call in (sources, kept):
            call(WIDE_ALL, eight)
            call(BACK, eight)
            self.refused(TooLarge("states"), call, WIDE_ALL, nine)
            self.refused(TooLarge("states"), call, ON, nine)

    def test_the_set_stays_as_it_was(self):
        rows = rows_of([(0, 1), (1,)])
        steps, last = rows.steps, rows.last
        images(MOST, rows), sources(MOST, rows), kept(MOST, rows)
        self.assertEqual((rows.steps, rows.last), (steps, last))


class Kept(Case):
    def test_word_by_word(self):
        answers = set()
        for seed in range(3):
            for number, chain in enumerate(chains_and_sweeps(24, seed + 3)):
                made = short_made(chain)
                for rows in sets_of(6, number, 8):
                    found = kept(chain, rows)
                    answers.add(found is None)
                    out = next((row for row in SHORT if row in rows and made[row] not in rows), None)
                    if out is not None:
                        self.assertEqual((found, type(found)), (out, tuple))
                    elif found is not None:
                        self.assertGreater(len(found), 8)
                        self.assertTrue(found in rows and chained(chain, found) not in rows)
                    self.assertIs(found is None, rows <= sources(chain, rows))
        self.assertEqual(answers, {True, False})

    def test_a_set_that_is_kept(self):
        self.assertIsNone(kept(MOST, ones(3)))
        self.assertIsNone(kept(LEAST, FEW))
        self.assertEqual(kept(MEDIAN, FEW), (1, 0, 1))
        self.assertIsNone(kept(ON, lengths_set(4)))
        self.assertIsNone(kept(BACK ** 0, rows_of([(0, 1, 0), (1,)])))

    def test_a_set_that_is_not_kept(self):
        self.assertEqual(kept(LEAST, ones(3)), (0, 1, 1))
        self.assertEqual(kept(SWING, zeros(3)), None)
        self.assertEqual(kept(~MEDIAN >> MOST, FEW), (0, 1))
        self.assertEqual(kept(MOVE, ENDS_1), (0, 1))
        # Three cells 1 are moved out of the row.
        self.assertEqual(kept(MOVE ** 3, ones(4)), (0, 1, 1, 1))


class SourceAndWays(Case):
    def test_all_rows_of_up_to_8_cells(self):
        for seed in range(3):
            for chain in chains_and_sweeps(4, seed):
                made = {}
                for row, result in short_made(chain).items():
                    made.setdefault(result, []).append(row)
                for row in SHORT:
                    found = made.get(row, [])
                    self.assertEqual(ways(chain, row), len(found))
                    self.assertEqual(source(chain, row), min(found, default=None))
                self.assertEqual(sum(ways(chain, row) for row in SHORT[254:]), 2 ** 8)

    def test_never(self):
        for chain in small_chains(30, 4):
            missing = never(chain)
            for row in SHORT[:62]:
                self.assertIs(row in missing, ways(chain, row) == 0)
                self.assertIs(row in missing, source(chain, row) is None)

    def test_60_cells(self):
        for chain in (MEDIAN, MOST, MOVE, SWING, ON, BACK, WIDE_ALL, WIDE, WIDE_BACK & KEEP, WIDE_ON | WIDE_ALL,
                      (WIDE_ON | WIDE_ALL).mirrored(), MEDIAN ** 3, ~(MOST >> LEAST)):
            for row in long_rows(2, 3, 60, 60):
                result = chained(chain, row)
                with Clock(self):
                    first, count = source(chain, result), ways(chain, result)
                self.assertEqual(chained(chain, first), result)
                self.assertLessEqual(first, row)
                self.assertGreaterEqual(count, 1 if first == row else 2)
        self.assertEqual(ways(KEEP, (0, 1) * 30), 1)
        self.assertEqual(ways(Sweep((1, 0), 1, own=1, way="on"), (1,) * 60), 2 ** 59)
        self.assertEqual(source(Sweep((1, 0), 1, own=1, way="on"), (1,) * 60), (1,) + (0,) * 59)
        self.assertEqual(source(Sweep((0, 1), 1, own=0, way="back"), (1,) * 60), (0,) * 59 + (1,))
        self.assertEqual((source(KEEP, (0,) * 60), source(MOVE, (0, 1) * 30)), ((0,) * 60, None))
        self.assertEqual(ways(MOVE, (0, 1) * 30), 0)

    def test_wrong_rows(self):
        for call in (source, ways):
            for value in (*NO_LISTS, [], (), [0] * 61, (1,) * 61, [None] * 61, [2] * 200):
                self.refused(NoRow(-1), call, MEDIAN, value)
            for bad in (2, -1, GREAT, *NO_NUMBERS, [1]):
                self.refused(NoRow(0), call, MEDIAN, [bad, 0, bad])
                self.refused(NoRow(3), call, MEDIAN, (0, 1, 0, bad, 1, bad))
                self.refused(NoRow(59), call, BACK, (0,) * 59 + (bad,))
                self.refused(NoRow(-1), call, ON, [0] * 60 + [bad])
            self.refused(NoChain("p"), call, None, [2])

    def test_a_list_and_a_tuple_are_equal_arguments(self):
        row = [1, 1, 0]
        self.assertEqual([source(MOST, row), ways(MOST, row)], [(1, 0, 0), 1])
        self.assertEqual(row, [1, 1, 0])


class Errors(Case):
    def test_in_their_order(self):
        five, nine = lengths_set(4), lengths_set(8)
        for value in (*NO_CHAINS, Sweep, [KEEP], no_rows()):
            self.refused(NoChain("p"), images, value, None, most=0)
            self.refused(NoChain("p"), never, value, most=0)
            self.refused(NoChain("p"), sources, value, None, most=0)
            self.refused(NoChain("p"), source, value, None)
            self.refused(NoChain("p"), ways, value, None)
            self.refused(NoChain("p"), kept, value, None)
        for value in (*NO_ROWS, KEEP, Rows, [no_rows()], ([(0, 0)], [False])):
            self.refused(NoRows("rows", -1), images, ON, value, most=0)
            self.refused(NoRows("rows", -1), sources, KEEP, value, most=0)
            self.refused(NoRows("rows", -1), kept, KEEP, value)
        for most in WRONG_MOST:
            self.refused(NoNumber("most"), images, ON, five, most=most)
            self.refused(NoNumber("most"), never, ON, most=most)
            self.refused(NoNumber("most"), sources, ON, nine, most=most)
        self.refused(NoForm(), images, ON ** 3, five, most=1)
        self.refused(NoForm(), never, ON ** 3, most=1)
        self.refused(TooLarge("size"), images, WIDE_ALL >> (KEEP ** 2), five, most=1)
        self.refused(TooLarge("size"), never, WIDE_ALL >> (KEEP ** 2), most=1)
        self.refused(TooLarge("reach"), images, WIDE_ALL, five, most=1)
        self.refused(TooLarge("reach"), never, WIDE_ALL, most=1)
        self.refused(TooLarge("states"), images, KEEP, five, most=1)
        self.refused(TooLarge("states"), sources, KEEP, nine, most=1)
        self.refused(TooMany(1), images, KEEP, ENDS_1, most=1)
        self.refused(TooMany(1), sources, KEEP, ENDS_1, most=1)

    def test_a_result_of_more_than_500_states(self):
        found = set()
        for steps, last in some_machines(60, 9, 8):
            rows = Rows(steps, last)
            if len(rows) == 8:
                for chain in (WIDE_MANY, BACK):
                    with Clock(self):
                        try:
                            found.add(len(sources(chain, rows)) <= 500)
                        except TooMany as error:
                            self.assertEqual(error.most, 500)
                            found.add(False)
                    with Clock(self):
                        out = kept(chain, rows)
                    if out is not None:
                        self.assertTrue(out in rows and chained(chain, out) not in rows)
        self.assertEqual(found, {True, False})


class General(Case):
    def test_by_name(self):
        self.assertEqual(images(most=9, rows=ENDS_1, p=KEEP), ENDS_1)
        self.assertEqual(never(most=9, p=KEEP), no_rows())
        self.assertEqual(sources(most=9, rows=ENDS_1, p=KEEP), ENDS_1)
        self.assertEqual([source(row=(1, 1), p=MOST), ways(row=(1, 1), p=MOST)], [(0, 1), 3])
        self.assertEqual(kept(rows=ENDS_1, p=MOVE), (0, 1))
        for call, more in ((images, (ENDS_1,)), (never, ()), (sources, (ENDS_1,))):
            with self.assertRaises(TypeError):
                call(KEEP, *more, 5)

    def test_a_second_call_gives_the_same(self):
        for chain in (MEDIAN, SWING, MOVE):
            self.assertEqual(images(chain, ENDS_1), images(chain, ENDS_1))
            self.assertEqual(never(chain), never(chain))
            self.assertEqual(sources(chain, ENDS_1), sources(chain, ENDS_1))
            self.assertEqual(kept(chain, ENDS_1), kept(chain, ENDS_1))
            self.assertEqual(source(chain, (0, 1)), source(chain, (0, 1)))
            self.assertEqual(ways(chain, (0, 1)), ways(chain, (0, 1)))


if __name__ == "__main__":
    unittest.main()
