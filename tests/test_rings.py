"""Point [11]: rings; [1] for it."""
import itertools
import unittest

from asked import KEEP, LEAST, MEDIAN, MOST, MOVE, NO_CHAINS, WIDE, WIDE_ALL, Clock, some_pairs
from by_words import ringed, some_chains, some_rows, some_sweeps
from cases import Case
from ranksweeps.decided import relation
from ranksweeps.errors import NoChain, NoNumber, NoRing, NoRow, TooLarge, TooMany
from ranksweeps.rings import ring, ring_count, ring_parting, ring_passes, ring_relation
from ranksweeps.rows import level
from ranksweeps.sweeps import Sweep
from row_sets import SHORT
from values import NO_LISTS, NO_NUMBERS

GREAT = 10 ** 30
BACK_MOVE = MOVE.mirrored()
ON = Sweep((1, 1), 2, own=1, way="on")
BACK = Sweep((1, 1), 2, own=0, way="back")
IN_PLACE = (ON, BACK, ~ON, ON ** 1, BACK >> KEEP, MEDIAN | ON, Sweep((1,), 1, way="on"), Sweep((1,), 1, way="back"))
WIDE_3 = Sweep((3, 1, 2, 2, 1, 3, 3), 6, own=3)
WIDE_8 = ((WIDE_ALL & WIDE_3) | (WIDE_ALL & ~WIDE_3)) & ((WIDE_3.mirrored() | MEDIAN) | (WIDE_ALL & MEDIAN))


def all_chains(count, seed):
    return [*some_chains(count, seed, ("all",)), *some_sweeps(count, seed + 1, ("all",))]


def path_of(chain, row):
    """The pair (ahead, round), row by row."""
    path = [tuple(row)]
    while True:
        made = ringed(chain, path[-1])
        if made in path:
            return path.index(made), len(path) - path.index(made)
        path.append(made)


class Ring(Case):
    def test_the_examples_of_the_document(self):
        self.assertEqual([ring(Sweep((1, 0), 1, own=1), (1, 2, 3)), ring(Sweep((1, 1, 1), 2), (0, 1))],
                         [(3, 1, 2), (1, 0)])

    def test_word_by_word(self):
        kinds = set()
        for chain in [*all_chains(60, 1), WIDE, WIDE_ALL, WIDE_8, ON ** 0, KEEP >> BACK ** 0]:
            kinds.add(chain.kind)
            for row in some_rows(12, 7, 14, 9):
                self.assertEqual(ring(chain, row), ringed(chain, row))
                self.assertEqual(ring(chain, list(row)), ringed(chain, row))
        self.assertEqual(kinds, {"sweep", "then", "higher", "lower", "turned", "mirrored", "times"})

    def test_short_rings(self):
        far = Sweep((1, 0, 0, 0, 0, 0, 1), 1, own=3)
        for chain in (far, WIDE, WIDE_ALL, MEDIAN ** 3, MOVE ** 6, Sweep((0, 3, 0, 1), 2, own=0)):
            for row in ((5,), (-1, 4), (2, 0, 1), (3, 3, 1, 2)):
                self.assertEqual(ring(chain, row), ringed(chain, row))
            self.assertEqual(ring(chain, (7,)), (7,))
        # A ring of two cells: the cells three before and three behind are both the other one.
        self.assertEqual(ring(far, (1, 2)), (2, 1))

    def test_200_cells_and_many_digits(self):
        row = tuple((k * k) % 199 - 70 for k in range(200))
        self.assertEqual(ring(MOVE, row), row[-1:] + row[:-1])
        long = tuple(10 ** 99 + cell for cell in row)
        with Clock(self):
            self.assertEqual(ring(WIDE_8, row), ringed(WIDE_8, row))
            self.assertEqual(ring(WIDE_8, long), tuple(10 ** 99 + cell for cell in ring(WIDE_8, row)))
        self.assertEqual(ring(MEDIAN, (10 ** 99, -10 ** 99, 0)), (0, 0, 0))

    def test_ends_mean_nothing(self):
        for row in some_rows(20, 3, 9, 5):
            for weights, rank in (((1, 2, 1), 2), ((1, 0, 2), 3), ((3, 1, 1, 1), 4)):
                self.assertEqual(ring(Sweep(weights, rank, ends="cut"), row), ring(Sweep(weights, rank), row))

    def test_levels(self):
        for chain in all_chains(20, 3):
            for row in some_rows(3, 4, 9, 4):
                made = ring(chain, row)
                for value in row:
                    self.assertEqual(ring(chain, level(row, value)), level(made, value))

    def test_errors_in_their_order(self):
        for value in (*NO_CHAINS, Sweep, [KEEP]):
            self.refused(NoChain("p"), ring, value, None)
        for chain in IN_PLACE:
            self.refused(NoRing(), ring, chain, None)
            self.refused(NoRing(), ring, chain, (1, 2))
        for value in (*NO_LISTS, [], (), [0] * 201, [None] * 201):
            self.refused(NoRow(-1), ring, MEDIAN, value)
        for item in (*NO_NUMBERS, [1], (1,)):
            self.refused(NoRow(0), ring, MEDIAN, [item, 1, item])
            self.refused(NoRow(2), ring, MEDIAN, (1, 2, item))

    def test_the_row_stays_as_it_was(self):
        row = [3, 1, 2]
        self.assertEqual((ring(MOVE, row), type(ring(MOVE, row))), ((2, 3, 1), tuple))
        self.assertEqual(row, [3, 1, 2])


class Passes(Case):
    def test_the_example_of_the_document(self):
        self.assertEqual(ring_passes(Sweep((1, 0), 1, own=1), (1, 2, 3)), (0, 3))

    def test_word_by_word_and_most(self):
        results = set()
        for chain in [*all_chains(40, 5), MOVE, MOVE ** 2, KEEP, MEDIAN, LEAST, MOVE >> MEDIAN]:
            for row in some_rows(4, chain.size, 10, 4):
                ahead, round_ = path_of(chain, row)
                results.add((ahead, round_))
                self.assertEqual(ring_passes(chain, row), (ahead, round_))
                self.assertEqual(ring_passes(chain, row, most=ahead + round_), (ahead, round_))
                if ahead + round_ > 1:
                    self.refused(TooMany(ahead + round_ - 1), ring_passes, chain, row, most=ahead + round_ - 1)
        self.assertGreater(len(results), 12)

    def test_200_cells(self):
        row = tuple(range(200))
        with Clock(self):
            self.assertEqual(ring_passes(MOVE, row), (0, 200))
            self.assertEqual(ring_passes(MOVE ** 3, row, most=200), (0, 200))
            self.assertEqual(ring_passes(LEAST, row, most=10000), (100, 1))
            self.assertEqual(ring_passes(LEAST, row, most=101), (100, 1))
            self.refused(TooMany(100), ring_passes, LEAST, row, most=100)
            self.refused(TooMany(199), ring_passes, MOVE, row, most=199)
            ahead, round_ = ring_passes(WIDE_8, tuple(cell * cell % 211 for cell in row), most=10000)
        self.assertGreater(ahead + round_, 0)

    def test_the_usual_most_is_1000(self):
        chain = ((Sweep((0, 1, 0, 0, 3, 1), 4, own=4) & Sweep((1, 1, 3, 0, 1, 2, 0), 1, own=3))
                 | Sweep((3, 1, 2, 0, 0, 3), 6, own=4))
        cells = {151: 2, 153: 1, 155: 2, 157: 2, 158: 2}
        row = tuple(cells.get(index, 0) for index in range(199))
        self.assertEqual(path_of(chain, row), (491, 597))
        with Clock(self):
            for most in (1088, 10000):
                self.assertEqual(ring_passes(chain, row, most=most), (491, 597))
            for most in (1, 1000, 1087):
                self.refused(TooMany(most), ring_passes, chain, row, most=most)
            self.refused(TooMany(1000), ring_passes, chain, row)

    def test_errors_in_their_order(self):
        for value in NO_CHAINS:
            self.refused(NoChain("p"), ring_passes, value, None, most=0)
        for chain in IN_PLACE:
            self.refused(NoRing(), ring_passes, chain, None, most=0)
        for value in (*NO_LISTS, [], [0] * 201):
            self.refused(NoRow(-1), ring_passes, MOVE, value, most=0)
        self.refused(NoRow(1), ring_passes, MOVE, (1, True, None), most=0)
        for most in (0, -1, 10001, GREAT, *NO_NUMBERS, [1]):
            self.refused(NoNumber("most"), ring_passes, MOVE, (1, 2, 3), most=most)


class Pairs(Case):
    """Two chains against all 0/1 rings of 1 to 8 cells."""

    def test_the_example_of_the_document(self):
        self.assertEqual(ring_parting(Sweep((1, 0), 1, own=1), Sweep((0, 1), 1, own=0)), ((0, 0, 1), 0))

    def compare(self, p, q):
        one, two = ({row: ringed(chain, row) for row in SHORT} for chain in (p, q))
        unlike = [row for row in SHORT if one[row] != two[row]]
        greater = any(a > b for row in unlike for a, b in zip(one[row], two[row]))
        less = any(a < b for row in unlike for a, b in zip(one[row], two[row]))
        word = {(False, False): "alike", (True, False): "above", (False, True): "below", (True, True): "apart"}
        self.assertEqual(ring_relation(p, q), word[greater, less])
        self.assertEqual(ring_relation(q, p), word[less, greater])
        first = None
        if unlike:
            index = [a != b for a, b in zip(one[unlike[0]], two[unlike[0]])].index(True)
            first = (unlike[0], index)
        found = ring_parting(p, q)
        self.assertEqual([found, ring_parting(q, p)], [first, first])
        if found is not None:
            self.assertEqual([type(found), type(found[0]), type(found[1])], [tuple, tuple, int])
        return word[greater, less]

    def test_word_by_word(self):
        words = {self.compare(p, q) for p, q in [*some_pairs(120, 0), *some_pairs(60, 3), (MEDIAN, ~MEDIAN)]}
        self.assertEqual(words, {"alike", "above", "below", "apart"})

    def test_alike_as_rings_and_not_as_rows(self):
        for p, q in ((Sweep((1, 1, 1), 2), Sweep((1, 1, 1), 2, ends="cut")), (MOVE >> BACK_MOVE, KEEP),
                     (MOVE ** 2, Sweep((1, 0, 0), 1, own=2, ends="cut")), (MOVE >> MEDIAN >> BACK_MOVE, MEDIAN)):
            self.assertNotEqual(relation(p, q), "alike")
            self.assertEqual(self.compare(p, q), "alike")
            self.assertEqual(self.compare(p, p), "alike")

    def test_rings_that_part_late(self):
        for k in range(1, 4):
            self.assertEqual(self.compare(MOVE ** k, BACK_MOVE ** (4 - k)), "apart")
            self.assertEqual(len(ring_parting(MOVE ** k, BACK_MOVE ** (4 - k))[0]), 3)
        self.assertEqual(ring_parting(MOVE ** 3, BACK_MOVE ** 3)[0], (0, 0, 0, 1))
        self.compare(WIDE_ALL, WIDE_3)

    def test_reaches_of_6_and_7(self):
        left = [Sweep((1,) + (0,) * n, 1, own=n) for n in range(7)]
        right = [Sweep((0,) * n + (1,), 1, own=0) for n in range(7)]
        for n in range(7):
            self.compare(left[n], right[6 - n])
            self.compare(left[n], left[6])
        for n in range(1, 7):
            for call in (ring_relation, ring_parting):
                self.refused(TooLarge("reach"), call, left[n], right[7 - n])
                self.refused(TooLarge("reach"), call, right[7 - n], left[n])

    def test_rings_of_integers(self):
        for p, q in some_pairs(40, 0):
            word = ring_relation(p, q)
            for row in some_rows(6, 2, 7, 4):
                one, two = ring(p, row), ring(q, row)
                if word in ("alike", "below"):
                    self.assertTrue(all(a <= b for a, b in zip(one, two)))
                if word in ("alike", "above"):
                    self.assertTrue(all(a >= b for a, b in zip(one, two)))

    def test_errors_in_their_order(self):
        far = Sweep((0,) * 6 + (1,), 1, own=0)
        for call in (ring_relation, ring_parting):
            for value in NO_CHAINS:
                self.refused(NoChain("p"), call, value, value)
                self.refused(NoChain("q"), call, ON, value)
            for chain in IN_PLACE:
                for other in (KEEP, far, MOVE, ON, BACK):
                    self.refused(NoRing(), call, chain, other)
                    self.refused(NoRing(), call, other, chain)
            self.refused(NoRing(), call, far >> Sweep((1,), 1, way="on"), MOVE)
            self.refused(TooLarge("reach"), call, far, MOVE)

    def test_the_widest_chains(self):
        with Clock(self):
            for p, q in itertools.product((WIDE_8, WIDE_ALL, WIDE_8 ** 1, KEEP), repeat=2):
                ring_relation(p, q)
                ring_parting(p, q)


class Count(Case):
    def test_the_example_of_the_document(self):
        self.assertEqual(ring_count(Sweep((1, 1, 1), 2), 4), 6)

    def test_all_rings_of_1_to_10_cells(self):
        reaches = set()
        rings = [row for length in range(1, 11) for row in itertools.product((0, 1), repeat=length)]
        chains = [chain for chain in all_chains(60, 7) if sum(chain.reach) <= 4][:30]
        for chain in [*chains, KEEP, MEDIAN, MOVE, MOVE ** 4, MOVE ** 2 >> BACK_MOVE ** 2, ON ** 0]:
            reaches.add(sum(chain.reach))
            stay = [len(row) for row in rings if ring(chain, row) == row]
            for length in range(1, 11):
                count = stay.count(length)
                self.assertEqual(ring_count(chain, length), count)
                self.assertEqual(ring_count(chain, length, modulo=None), count)
                for modulo in (1, 2, 7, 10 ** 9):
                    self.assertEqual(ring_count(chain, length, modulo=modulo), count % modulo)
        self.assertEqual(reaches, {0, 1, 2, 3, 4})

    def test_great_lengths(self):
        for length in (1000, 1001, 10 ** 6, GREAT - 1, GREAT):
            for modulo in (1, 7, 10 ** 9 - 1, 10 ** 9):
                with Clock(self):
                    self.assertEqual(ring_count(KEEP, length, modulo=modulo), pow(2, length, modulo))
                    self.assertEqual(ring_count(MOVE, length, modulo=modulo), 2 % modulo)
                    # What moves by four cells comes back if the ring is made of four cells, or two, or one.
                    rings = {0: 16, 1: 2, 2: 4, 3: 2}[length % 4] % modulo
                    self.assertEqual(ring_count(MOVE ** 4, length, modulo=modulo), rings)
        self.assertEqual(ring_count(KEEP, 1000), 2 ** 1000)

    def test_the_median_by_its_own_law(self):
        # Rings in which each cell equals one of its neighbours, by the table of the pairs of neighbours.
        def law(length):
            table = [[0] * 4 for _ in range(4)]
            for a, b, c in itertools.product((0, 1), repeat=3):
                if b in (a, c):
                    table[2 * a + b][2 * b + c] = 1
            power = table
            for _ in range(length - 1):
                power = [[sum(line[k] * table[k][j] for k in range(4)) for j in range(4)] for line in power]
            return sum(power[k][k] for k in range(4))

        for length in (1, 2, 3, 11, 100, 1000):
            self.assertEqual(ring_count(MEDIAN, length), law(length))
        self.assertEqual(ring_count(MEDIAN, 1001, modulo=10 ** 9), law(1001) % 10 ** 9)

    def test_reach(self):
        for chain in (MOVE ** 4, Sweep((1, 1, 1, 1, 1), 3), Sweep((0, 0, 0, 0, 1), 1, own=0), MEDIAN ** 2):
            with Clock(self):
                ring_count(chain, GREAT, modulo=10 ** 9)
                ring_count(chain, 1000)
        for chain in (MOVE ** 5, Sweep((1, 1, 1, 1, 1, 1), 3), MEDIAN ** 2 >> MOVE, WIDE):
            self.refused(TooLarge("reach"), ring_count, chain, 5)

    def test_errors_in_their_order(self):
        for value in NO_CHAINS:
            self.refused(NoChain("p"), ring_count, value, 0, modulo=0)
        for length in (0, -1, GREAT + 1, *NO_NUMBERS, [1]):
            self.refused(NoNumber("length"), ring_count, ON, length, modulo=0)
            self.refused(NoNumber("length"), ring_count, MEDIAN, length)
        for modulo in (0, -1, 10 ** 9 + 1, *[wrong for wrong in NO_NUMBERS if wrong is not None], [1]):
            self.refused(NoNumber("modulo"), ring_count, BACK, 5, modulo=modulo)
        for length in (1001, GREAT):
            self.refused(NoNumber("modulo"), ring_count, ON, length)
        for chain in (*IN_PLACE, WIDE_ALL | ON):
            self.refused(NoRing(), ring_count, chain, 5)
        self.refused(TooLarge("reach"), ring_count, WIDE, 1001, modulo=5)


if __name__ == "__main__":
    unittest.main()
