"""What stands behind points [7], [9], [10] and [11]: chains that read a row cell by cell, and many rings at once."""
import unittest

from asked import KEEP, MEDIAN, MOVE, WIDE_ALL, WIDE_BACK, WIDE_ON, chains_and_sweeps, long_rows, passed, some_pairs
from by_words import chained, ringed
from ranksweeps.lanes import Lanes, number_of
from ranksweeps.readers import pair_reader, passes_reader
from row_sets import SHORT


def told(reader, row):
    """The letters that the reader tells of a row, from its first cell on."""
    state, letters = 0, []
    for cell in row[::-1] if reader.backward else row:
        if reader.letters[state][cell] is not None:
            letters.append(reader.letters[state][cell])
        state = reader.steps[state][cell]
    letters = letters + reader.ends[state]
    return letters[::-1] if reader.backward else letters


class Readers(unittest.TestCase):
    def test_pairs(self):
        for seed in range(3):
            for number, (p, q) in enumerate(some_pairs(25, seed)):
                reader = pair_reader(p, q)
                self.assertIs(reader.backward, "back" in (p.direction, q.direction))
                for row in SHORT[:62] + SHORT[number::40] + long_rows(2, number):
                    self.assertEqual(told(reader, row), list(zip(chained(p, row), chained(q, row))))

    def test_passes(self):
        for seed in range(3):
            for number, chain in enumerate(chains_and_sweeps(20, seed)):
                if sum(chain.reach) <= 2:
                    for numbers in ((1,), (0, 1), (1, 2), (0, 2, 4)):
                        reader = passes_reader(chain, numbers)
                        for row in SHORT[number::60] + long_rows(1, number):
                            self.assertEqual(told(reader, row), list(zip(*[passed(chain, row, k) for k in numbers])))

    def test_few_states(self):
        self.assertEqual(len(pair_reader(KEEP, MEDIAN ** 0).steps), 1)
        self.assertEqual(len(passes_reader(MOVE, (0, 1)).steps), 3)
        for p, q in ((WIDE_ALL, WIDE_ON), (WIDE_ALL | WIDE_ON, KEEP), (WIDE_BACK, MEDIAN), (MEDIAN ** 3, WIDE_ALL)):
            self.assertLess(len(pair_reader(p, q).steps), 1200)


class ManyRings(unittest.TestCase):
    def test_each_ring_by_itself(self):
        for length in range(1, 8):
            rings = [row for row in SHORT if len(row) == length]
            lanes, bits = Lanes(length, len(rings)), number_of(rings, length)
            for chain in chains_and_sweeps(20, 3):
                made = lanes.ringed(chain, bits)
                self.assertEqual([lanes.ring(made, number) for number in range(len(rings))],
                                 [ringed(chain, ring) for ring in rings])

    def test_no_ring(self):
        lanes = Lanes(5, 0)
        self.assertEqual([lanes.full, lanes.ringed(MEDIAN, 0), number_of([], 5)], [0, 0, 0])


if __name__ == "__main__":
    unittest.main()
