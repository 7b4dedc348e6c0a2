"""Point [6]: the operators of Rows, mirrored and turned, and questions about the whole set."""
import unittest

from cases import Case
from ranksweeps.errors import TooMany
from ranksweeps.machines import Rows, all_rows, no_rows, rows_of
from row_sets import (SHORT, least_size, lengths_set, long_set, numbering, one_before_the_end, short_rows, some_sets,
                      zeros)

PAIRS = list(zip(some_sets(150, 1, 4), some_sets(150, 2, 4)))
ENDS_1 = Rows([[0, 1], [0, 1]], [False, True])
BEGINS_1 = Rows([(1, 2), (1, 1), (2, 2)], [False, False, True])
OPERATORS = (lambda a, b: a & b, lambda a, b: a | b, lambda a, b: a - b, lambda a, b: a ^ b)


class Sets(Case):
    def too_many(self, call, *arguments):
        self.refused(TooMany(500), call, *arguments)

    def is_least(self, rows):
        self.assertEqual(len(rows), least_size(rows.steps, rows.last))
        self.assertEqual(numbering(rows.steps), list(range(len(rows))))
        self.assertIs(rows.last[0], False)
        self.assertIs(type(rows), Rows)


class Operators(Sets):
    def test_against_all_short_rows(self):
        every = set(SHORT)
        for a, b in PAIRS:
            first, second = short_rows(a), short_rows(b)
            for rows, expected in ((a & b, first & second), (a | b, first | second), (a - b, first - second),
                                   (a ^ b, first ^ second), (~a, every - first), (~b, every - second)):
                self.assertEqual(short_rows(rows), expected)
                self.is_least(rows)
            # They leave their operands.
            self.assertEqual((short_rows(a), short_rows(b)), (first, second))

    def test_a_set_beside_itself_and_beside_its_complement(self):
        for rows in some_sets(60, 3):
            other = ~rows
            self.assertEqual([rows & rows, rows | rows, rows - rows, rows ^ rows], [rows, rows, no_rows(), no_rows()])
            self.assertEqual([rows & other, rows | other, rows - other, other - rows, rows ^ other],
                             [no_rows(), all_rows(), rows, other, all_rows()])
            self.assertEqual(~other, rows)

    def test_the_empty_set_and_the_set_of_all_rows(self):
        empty, every = no_rows(), all_rows()
        self.assertEqual([~empty, ~every], [every, empty])
        for rows in [*some_sets(60, 4), empty, every]:
            self.assertEqual([rows & empty, rows | empty, rows - empty, empty - rows, rows ^ empty],
                             [empty, rows, rows, empty, rows])
            self.assertEqual([rows & every, rows | every, rows - every, every - rows, rows ^ every],
                             [rows, every, empty, ~rows, ~rows])

    def test_by_hand(self):
        both = ENDS_1 & BEGINS_1
        self.assertEqual((both.steps, both.last),
                         (((1, 2), (1, 1), (3, 2), (3, 2)), (False, False, True, False)))
        self.assertEqual([row for row in SHORT[:14] if row in ENDS_1 - BEGINS_1],
                         [(0, 1), (0, 0, 1), (0, 1, 1)])
        self.assertEqual([row for row in SHORT[:6] if row in ENDS_1 ^ BEGINS_1], [(0, 1), (1, 0)])
        self.assertEqual([row for row in SHORT[:6] if row in ENDS_1 | BEGINS_1], [(1,), (0, 1), (1, 0), (1, 1)])

    def test_the_complement_may_need_a_start_of_its_own(self):
        rows = lengths_set(2, (1,))
        self.assertEqual((len(rows), len(~rows), len(~~rows)), (2, 3, 2))
        self.assertEqual(len(~lengths_set(499, (1,))), 500)
        self.assertEqual(len(~long_set(498)), 500)
        self.too_many(lambda rows: ~rows, lengths_set(500, range(1, 500, 3)))

    def test_up_to_500_states(self):
        # Lengths by 4 and by 125 go round together by 500.
        fours, many = lengths_set(4, (1, 2)), lengths_set(125, (1, 3))
        for make in OPERATORS:
            self.assertEqual(len(make(fours, many)), 500)
        self.assertEqual(len(lengths_set(4, (1,)) & lengths_set(125, (1,))), 500)
        self.assertEqual(len(long_set(497) | long_set(498)), 500)
        self.assertEqual(len(lengths_set(3, (1,)) | lengths_set(166, (1,))), 498)

    def test_more_than_500_states(self):
        threes, many = lengths_set(3, (1, 2)), lengths_set(167, (1, 3))
        for make in OPERATORS:
            self.too_many(make, threes, many)
        # 500 states in a round, and as last states are reached again at its start, a state more.
        self.too_many(lambda a, b: a & b, lengths_set(4), lengths_set(125))
        self.assertEqual(len(lengths_set(4) & lengths_set(124, (4,))), 124)
        self.assertEqual(len(lengths_set(4) & lengths_set(31)), 125)

    def test_the_greatest_machines(self):
        # 249500 pairs of states are reached, and hundreds of groups are found one by one.
        one, two = lengths_set(499, (1,)), lengths_set(500, (1,))
        for make in OPERATORS:
            self.too_many(make, one, two)
        long = long_set(498)
        self.assertEqual([long & two, long - two], [no_rows(), long])
        self.assertEqual([two & lengths_set(5, (1,)), two - lengths_set(5, (1,))], [two, no_rows()])
        self.assertEqual(one & ~one, no_rows())


class Orders(Sets):
    def test_against_all_short_rows(self):
        # Machines of 3 states part within 8 cells, or never.
        sets = [(rows, short_rows(rows)) for pair in PAIRS[:40] for rows in pair if len(rows) <= 3]
        for a, first in sets:
            for b, second in sets:
                self.assertIs(a <= b, first <= second)
                self.assertIs(a < b, first < second)
                self.assertIs(a >= b, first >= second)
                self.assertIs(a > b, first > second)

    def test_by_the_other_operators(self):
        for a, b in PAIRS:
            for one, two in ((a, b), (a & b, a), (a, a | b), (a - b, a), (a & b, a | b)):
                self.assertIs(one <= two, one - two == no_rows())
                self.assertIs(one < two, one - two == no_rows() and one != two)
                self.assertIs(one >= two, two - one == no_rows())
                self.assertIs(one > two, two - one == no_rows() and one != two)

    def test_the_empty_set_and_the_set_of_all_rows(self):
        empty, every = no_rows(), all_rows()
        self.assertEqual([empty <= every, empty < every, empty >= every, empty > every], [True, True, False, False])
        for rows in (empty, every, ENDS_1):
            self.assertEqual([rows <= rows, rows < rows, rows >= rows, rows > rows], [True, False, True, False])
            self.assertEqual([empty <= rows, rows <= every, rows >= empty, every >= rows], [True] * 4)
        self.assertEqual([empty < ENDS_1, ENDS_1 < every, every > ENDS_1, ENDS_1 > empty], [True] * 4)

    def test_a_set_beside_its_complement(self):
        for rows in (ENDS_1, BEGINS_1, lengths_set(7, (1, 3))):
            other = ~rows
            self.assertEqual([rows <= other, rows < other, rows >= other, rows > other], [False] * 4)

    def test_sets_that_part_late(self):
        self.assertIs(lengths_set(499, (1,)) <= lengths_set(500, (1,)), False)
        self.assertIs(lengths_set(500, (1,)) < lengths_set(250, (1,)), True)
        self.assertIs(lengths_set(250, (1,)) > lengths_set(500, (1,)), True)
        self.assertIs(lengths_set(250, (1,)) <= lengths_set(500, (1,)), False)
        self.assertIs(long_set(498) <= lengths_set(499, (498,)), True)


class MirroredAndTurned(Sets):
    def test_against_all_short_rows(self):
        for rows in some_sets(200, 5):
            mirrored, turned = rows.mirrored(), rows.turned()
            self.assertEqual(short_rows(mirrored), {row[::-1] for row in short_rows(rows)})
            self.assertEqual(short_rows(turned), {tuple(1 - cell for cell in row) for row in short_rows(rows)})
            self.is_least(mirrored)
            self.is_least(turned)
            self.assertEqual([mirrored.mirrored(), turned.turned()], [rows, rows])

    def test_by_hand(self):
        self.assertEqual([ENDS_1.mirrored(), BEGINS_1.mirrored()], [BEGINS_1, ENDS_1])
        self.assertEqual(ENDS_1.turned(), ~ENDS_1)
        self.assertEqual(rows_of([(0, 0, 1), (1, 0)]).mirrored(), rows_of([(1, 0, 0), (0, 1)]))
        self.assertEqual(rows_of([(0, 0, 1), (1, 0)]).turned(), rows_of([(1, 1, 0), (0, 1)]))
        for rows in (no_rows(), all_rows(), lengths_set(500, (1,)), long_set(498)):
            self.assertEqual([rows.mirrored(), rows.turned()], [rows, rows])

    def test_many_states(self):
        # A 1 at a place from the end is seen late; from the start it is seen at once.
        for distance in range(1, 8):
            rows = one_before_the_end(distance)
            self.assertEqual(len(rows), 2 ** (distance + 1))
            self.assertEqual(len(rows.mirrored()), distance + 3)
            self.assertEqual(rows.mirrored().mirrored(), rows)

    def test_too_many(self):
        self.assertEqual(len(with_1_at(7).mirrored()), 256)
        for place in (8, 9, 40, 400):
            self.too_many(with_1_at(place).mirrored)

    def test_500_states_and_501(self):
        self.assertEqual(len(long_set(498).mirrored()), 500)
        self.assertEqual(len(lengths_set(500, (3, 7)).mirrored()), 500)
        # By the last cell, which is read first when they are mirrored, these fall into two parts.
        marked = with_1_at(7) & ENDS_1
        for length, many in ((240, 498), (241, 499), (242, 500)):
            rows = (marked | zeros(length)).mirrored()
            self.assertEqual(len(rows), many)
            self.is_least(rows)
        for length in (243, 244, 400):
            self.too_many((marked | zeros(length)).mirrored)


def with_1_at(place):
    """The rows with a 1 at this place."""
    steps = [(k + 1, k + 1) for k in range(place)] + [(place + 2, place + 1)]
    return Rows(steps + [(place + 1,) * 2, (place + 2,) * 2], [k == place + 1 for k in range(place + 3)])


class Whole(Sets):
    def test_least(self):
        for rows in [*some_sets(200, 6), no_rows(), all_rows()]:
            short = [row for row in SHORT if row in rows]
            self.assertEqual(rows.least(), short[0] if short else None)

    def test_least_of_long_rows(self):
        self.assertEqual(long_set(498).least(), (0,) * 498)
        self.assertEqual(long_set(498).turned().least(), (0,) * 498)
        self.assertEqual(rows_of([(1, 1), (1, 0), (0, 1, 1)]).least(), (1, 0))
        self.assertEqual((long_set(498) & ENDS_1.mirrored()).least(), (1,) + (0,) * 497)
        self.assertIs(type(ENDS_1.least()), tuple)

    def test_is_finite_and_longest(self):
        for rows, finite, longest in (
                (no_rows(), True, None), (all_rows(), False, None), (ENDS_1, False, None), (BEGINS_1, False, None),
                (rows_of([(0,)]), True, 1), (rows_of([(0, 1), (1,)]), True, 2), (rows_of([(0,) * 12, (1,)]), True, 12),
                (long_set(1), True, 1), (long_set(498), True, 498), (~long_set(498), False, None),
                (lengths_set(500, (1,)), False, None), (~no_rows(), False, None), (~all_rows(), True, None),
                (Rows([(1, 2), (1, 1), (2, 1)], [False] * 3), True, None),
                (Rows([(1, 0), (1, 1)], [False, False]), True, None),
                (Rows([(0, 1), (2, 2), (2, 2)], [False, True, False]), False, None)):
            self.assertEqual((rows.is_finite(), rows.longest()), (finite, longest))
            self.assertIs(type(rows.is_finite()), bool)

    def test_against_the_counts(self):
        for rows in some_sets(300, 7, 5):
            lengths = [length for length in range(1, 25) if rows.counted(length)]
            finite = not lengths or lengths[-1] < 8
            self.assertIs(rows.is_finite(), finite)
            self.assertEqual(rows.longest(), lengths[-1] if finite and lengths else None)


if __name__ == "__main__":
    unittest.main()
