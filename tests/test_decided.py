"""Point [7]: two chains for all rows; [1], [3] and [4] for it."""
import itertools
import unittest

from asked import (KEEP, LEAST, MEDIAN, MOST, MOVE, NO_CHAINS, WIDE, WIDE_ALL, WIDE_BACK, WIDE_ON, WRONG_MOST, Clock,
                   long_rows, short_made, some_pairs)
from by_words import chained
from cases import Case
from ranksweeps.decided import above, differing, parting, relation
from ranksweeps.errors import NoChain, NoNumber, TooLarge, TooMany
from ranksweeps.machines import no_rows
from ranksweeps.rows import level, levels
from ranksweeps.sweeps import Sweep
from row_sets import SHORT

SETS = (differing, above)
ANSWERS = (parting, relation)
REVERSED = {"alike": "alike", "apart": "apart", "above": "below", "below": "above"}


def first_parting(one, two):
    """The first of the short rows that are made to different rows, with the first such index."""
    for row in SHORT:
        if one[row] != two[row]:
            return row, [a != b for a, b in zip(one[row], two[row])].index(True)
    return None


def greater(one, two):
    return any(a > b for a, b in zip(one, two))


class Examples(Case):
    def test_the_example_of_the_document(self):
        least = Sweep((1, 1), 1, own=0)
        median = Sweep((1, 1, 1), 2)
        self.assertEqual([relation(least, median), parting(least, median)], ["below", ((1, 0), 0)])

    def test_by_hand(self):
        # A cell that takes the one before it stays in a row without the steps 01 and 10.
        rows = differing(MOVE, KEEP)
        self.assertEqual([rows.counted(n) for n in (1, 2, 3, 4)], [0, 2, 6, 14])
        self.assertEqual(above(MOVE, KEEP).least(), (1, 0))
        self.assertEqual(above(KEEP, MOVE).least(), (0, 1))
        self.assertEqual(parting(MOVE, KEEP), ((0, 1), 1))
        self.assertEqual(relation(MOVE, KEEP), "apart")
        self.assertEqual([relation(LEAST, KEEP), relation(MOST, KEEP), relation(KEEP, ~~KEEP)],
                         ["below", "above", "alike"])


class Sets(Case):
    """Each pair of chains against all rows of 1 to 8 cells and some long ones."""

    def compare(self, p, q, rows):
        differ, more, less = differing(p, q), above(p, q), above(q, p)
        for row in rows:
            one, two = chained(p, row), chained(q, row)
            self.assertIs(row in differ, one != two)
            self.assertIs(row in more, greater(one, two))
            self.assertIs(row in less, greater(two, one))
        return differ, more, less

    def test_word_by_word(self):
        directions, words, kinds = set(), set(), set()
        for seed in range(6):
            for number, (p, q) in enumerate(some_pairs(40, seed)):
                with self.subTest(p=p, q=q):
                    differ, more, less = self.compare(p, q, SHORT[:126] + long_rows(2, number))
                    one, two = short_made(p), short_made(q)
                    self.assertEqual([row for row in SHORT if row in differ],
                                     [row for row in SHORT if one[row] != two[row]])
                    word = relation(p, q)
                    words.add(word)
                    kinds.update((p.kind, q.kind))
                    directions.add(tuple(sorted((p.direction, q.direction))))
                    self.assertEqual(word, {(False, False): "alike", (True, False): "above", (False, True): "below",
                                            (True, True): "apart"}[more != no_rows(), less != no_rows()])
                    self.assertEqual(relation(q, p), REVERSED[word])
                    self.assertEqual(differ, more | less)
                    self.assertEqual(differing(q, p), differ)
                    self.parted(p, q, one, two, differ)
        self.assertEqual(words, {"alike", "above", "below", "apart"})
        self.assertEqual(kinds, {"sweep", "then", "higher", "lower", "turned", "mirrored", "times"})
        self.assertEqual(directions, {("all", "all"), ("all", "on"), ("on", "on"), ("all", "back"), ("back", "back")})

    def parted(self, p, q, one, two, differ):
        found = parting(p, q)
        first = first_parting(one, two)
        if first is not None:
            self.assertEqual(found, first)
            self.assertEqual([type(found), type(found[0]), type(found[1])], [tuple, tuple, int])
        elif found is not None:
            row, index = found
            self.assertGreater(len(row), 8)
            self.assertEqual(row, differ.least())
            self.assertEqual(first_parting({row: chained(p, row)}, {row: chained(q, row)})
                             if row in SHORT else index, index)
        self.assertIs(found is None, differ == no_rows())
        self.assertEqual(parting(q, p), found)

    def test_ends_ways_and_times(self):
        for ends in ("held", "cut"):
            for way in ("all", "on", "back"):
                sweep = Sweep((1, 2, 0, 1), 3, own=2, ends=ends, way=way)
                for p in (sweep, ~sweep, sweep.mirrored().mirrored(), sweep ** 0, sweep ** 1, ~sweep ** 1):
                    for q in (KEEP, Sweep((1, 2, 1), 2, ends=ends, way=way), MEDIAN, sweep ** 0):
                        self.compare(p, q, SHORT[:254] + long_rows(1, 5))

    def test_rows_that_part_late(self):
        # In place, a cell that is 1 goes on through every second cell that is 1, or through all of them.
        for way, weights, own in (("on", (1, 0, 1, 1), 2), ("on", (1, 1, 1), 1), ("back", (1, 1, 0, 1), 1)):
            p = Sweep(weights, 2, own=own, way=way)
            for q in (Sweep(weights, 2, own=own), Sweep(weights, 2, own=own) ** 2, KEEP):
                self.assertEqual(parting(p, q), first_parting(short_made(p), short_made(q)))
        # Each pass of the median takes two cells off the ends of a row of 0 and 1 by turns.
        for number in range(3):
            p, q = MEDIAN ** number, MEDIAN ** 3
            row = tuple(k % 2 for k in range(2 * number + 3))
            self.assertEqual(parting(p, q), (row, number + 1))

    def test_rows_that_part_behind_9_cells(self):
        p = KEEP & Sweep((1, 2, 3, 3), 9, own=3) & Sweep((1, 1, 1, 1, 0, 0, 2), 5, own=3, ends="cut", way="back")
        rows = [row for length in range(1, 11) for row in itertools.product((0, 1), repeat=length)]
        for chain in (p, p.mirrored(), ~p):
            first = next(row for row in rows if chained(chain, row) != row)
            self.assertEqual(len(first), 10)
            index = [a != b for a, b in zip(chained(chain, first), first)].index(True)
            self.assertEqual(parting(chain, KEEP), (first, index))


class Alike(Case):
    same = (
        (KEEP, MEDIAN ** 0),
        (KEEP, Sweep((0, 3, 0), 2, own=1, way="on")),
        (MEDIAN, ~MEDIAN),
        (MEDIAN, MEDIAN.mirrored()),
        (MEDIAN, Sweep((2, 2, 2), 3)),
        (MOST, ~LEAST),
        (MOST, Sweep((1, 1), 2, own=0) >> Sweep((1, 1), 2, own=1)),
        (MOVE >> MOVE, MOVE ** 2),
        (MOVE >> MOVE, Sweep((1, 0, 0), 1, own=2)),
        (MEDIAN | MEDIAN, MEDIAN & MEDIAN),
        (Sweep((1, 1), 2, own=1, way="on"), Sweep((1, 1), 2, own=1, way="on") ** 2),
        (Sweep((1, 1), 2, own=0, way="back"), Sweep((1, 1), 2, own=1, way="on").mirrored()),
        (Sweep((1, 0), 1, own=1, way="on") >> Sweep((1,), 1), ~Sweep((1, 0), 1, own=1, way="on")),
    )
    apart = ((MEDIAN, MOST), (MOVE, KEEP), (MOVE, MOVE.mirrored()), (MOVE, MOVE ** 2), (WIDE_ALL, KEEP))

    def test_alike_although_written_differently(self):
        for p, q in self.same:
            with self.subTest(p=p, q=q):
                self.assertNotEqual(p, q)
                self.all_alike(p, q)
                self.all_alike(q, p)

    def all_alike(self, p, q):
        self.assertEqual(relation(p, q), "alike")
        self.assertIsNone(parting(p, q))
        self.assertEqual([differing(p, q), above(p, q)], [no_rows(), no_rows()])

    def test_the_same_chain_twice(self):
        on = Sweep((1, 2, 1), 2, way="on")
        for p in (KEEP, MEDIAN, WIDE_ALL, MEDIAN ** 3, on, on.mirrored(), ~on, on ** 0, WIDE):
            self.all_alike(p, p)

    def test_not_alike(self):
        for p, q in self.apart:
            self.assertNotEqual(relation(p, q), "alike")
            self.assertNotEqual(differing(p, q), no_rows())

    def test_not_alike_on_rows_of_integers_exactly_if_not_on_their_levels(self):
        rows = [(3, 1, 2, 5, 5, 0), (7, -2, 4), (1, 2, 3, 4, 5, 4, 3)]
        for p, q in some_pairs(60, 7):
            word = relation(p, q)
            for row in rows:
                one, two = p(row), q(row)
                if word == "alike":
                    self.assertEqual(one, two)
                if word in ("alike", "below"):
                    self.assertFalse(greater(one, two))
                self.assertIs(one != two, any(level(row, v) in differing(p, q) for v in levels(row)))


class Limits(Case):
    def refused_all(self, error, p, q):
        for call in SETS + ANSWERS:
            self.refused(error, call, p, q)
            self.refused(error, call, q, p)

    def answered(self, p, q):
        for call in SETS + ANSWERS:
            call(p, q)
            call(q, p)

    def test_reach(self):
        left = [Sweep((1,) + (0,) * n, 1, own=n) for n in range(7)]
        right = [Sweep((0,) * n + (1,), 1, own=0) for n in range(7)]
        for n in range(7):
            self.answered(left[n], right[6 - n])
            self.answered(left[n], left[6])
        for n in range(1, 7):
            self.refused_all(TooLarge("reach"), left[n], right[7 - n])
        self.refused_all(TooLarge("reach"), MEDIAN ** 3, left[4])
        self.answered(MEDIAN ** 3, left[3])

    def test_written(self):
        on = [Sweep((1,) * (n + 1), 1, own=n, way="on") for n in range(4)]
        back = [Sweep((1,) * (n + 1), 1, own=0, way="back") for n in range(4)]
        for some in (on, back):
            for n in range(4):
                self.answered(some[n], some[3 - n])
            for n in range(1, 4):
                self.refused_all(TooLarge("written"), some[n], some[4 - n])
        self.refused_all(TooLarge("written"), on[2] >> on[1], on[1])

    def test_ways(self):
        on = Sweep((1, 1), 2, own=1, way="on")
        back = Sweep((1, 1), 2, own=0, way="back")
        self.refused_all(TooLarge("ways"), on, back)
        self.refused_all(TooLarge("ways"), Sweep((1,), 1, way="on"), Sweep((1,), 1, way="back"))
        self.answered(on, back.mirrored())
        self.answered(on, back ** 0)
        self.answered(on, KEEP)
        self.answered(back, KEEP)

    def test_two_limits_at_once(self):
        far = Sweep((0,) * 6 + (1,), 1, own=0)
        on = Sweep((1, 1, 1), 2, own=2, way="on")
        back = Sweep((1, 1, 1), 2, own=0, way="back")
        self.refused_all(TooLarge("reach"), far >> Sweep((1,), 1, way="back"), on)
        self.refused_all(TooLarge("reach"), Sweep((1,) * 4, 2, own=3, way="on") | Sweep((0,) * 3 + (1,), 1, own=0),
                         Sweep((0,) * 4 + (1,), 1, own=0) & Sweep((1, 1), 1, own=1, way="on"))
        self.refused_all(TooLarge("written"), on, back)


class Errors(Case):
    def test_wrong_chains(self):
        for call in SETS + ANSWERS:
            for value in (*NO_CHAINS, Sweep, [KEEP], (KEEP,), no_rows()):
                self.refused(NoChain("p"), call, value, KEEP)
                self.refused(NoChain("q"), call, KEEP, value)
                self.refused(NoChain("p"), call, value, value)

    def test_wrong_most(self):
        for call in SETS:
            for most in WRONG_MOST:
                self.refused(NoNumber("most"), call, KEEP, MEDIAN, most=most)

    def test_two_errors_at_once(self):
        far, other = Sweep((0,) * 6 + (1,), 1, own=0), Sweep((1, 0), 1, own=1)
        for call in SETS:
            self.refused(NoChain("p"), call, None, KEEP, most=0)
            self.refused(NoChain("q"), call, far, None, most=0)
            self.refused(NoNumber("most"), call, far, other, most=0)
            self.refused(TooLarge("reach"), call, far, other, most=1)

    def test_most_at_the_number_of_states_and_below(self):
        sizes = set()
        for seed in range(6):
            for p, q in some_pairs(25, seed):
                for call in SETS:
                    rows = call(p, q)
                    size = len(rows)
                    sizes.add(size)
                    self.assertEqual(call(p, q, most=size), rows)
                    if size > 1:
                        self.refused(TooMany(size - 1), call, p, q, most=size - 1)
                        self.refused(TooMany(1), call, p, q, most=1)
        self.assertGreater(len(sizes), 10)


class Wide(Case):
    def test_more_than_500_states(self):
        p, q = WIDE & KEEP, WIDE_BACK & KEEP
        with Clock(self):
            self.refused(TooMany(500), differing, p, q)
            self.refused(TooMany(7), differing, p, q, most=7)
            self.assertEqual([len(above(p, q)), len(above(q, p))], [170, 171])
            self.refused(TooMany(169), above, p, q, most=169)
            self.assertEqual(relation(p, q), "apart")
            self.assertEqual(parting(p, q), ((1, 0, 0, 0), 0))
        self.assertEqual(parting(p, q), first_parting(short_made(p), short_made(q)))

    def test_the_widest_chains(self):
        chains = [WIDE_ALL, WIDE_ALL & WIDE_ON, WIDE_ON >> Sweep((1, 1, 2, 1), 3, own=0), MEDIAN ** 3,
                  (MEDIAN >> MOST >> LEAST) | WIDE_ALL, KEEP]
        chains.extend([chain.mirrored() for chain in chains[:3]])
        for p in chains:
            for q in chains:
                if p.written + q.written <= 3 and {p.direction, q.direction} != {"on", "back"}:
                    with Clock(self):
                        relation(p, q)
                        found = parting(p, q)
                    first = first_parting(short_made(p), short_made(q))
                    self.assertEqual(found, first)
                    for call in SETS:
                        with Clock(self):
                            try:
                                call(p, q)
                            except TooMany:
                                pass


class General(Case):
    def test_by_name(self):
        self.assertEqual(differing(most=9, q=KEEP, p=MOVE), differing(MOVE, KEEP))
        self.assertEqual(above(most=9, q=KEEP, p=MOVE), above(MOVE, KEEP))
        self.assertEqual(parting(q=KEEP, p=MOVE), ((0, 1), 1))
        self.assertEqual(relation(q=KEEP, p=LEAST), "below")
        for call in SETS:
            with self.assertRaises(TypeError):
                call(KEEP, MOVE, 5)

    def test_a_second_call_gives_the_same(self):
        for call in SETS + ANSWERS:
            self.assertEqual(call(MEDIAN, MOVE), call(MEDIAN, MOVE))
            self.assertEqual(call(MEDIAN ** 1, MOVE), call(MEDIAN ** 1, MOVE))


if __name__ == "__main__":
    unittest.main()
