"""Point [6]: counted, row, place and listed of Rows, and valued."""
import itertools
import unittest

from cases import Case
from ranksweeps.errors import NoNumber, NoRow, NoRows, TooLarge, TooMany
from ranksweeps.machines import Rows, all_rows, no_rows, rows_of, valued
from ranksweeps.rows import level
from row_sets import SHORT, lengths_set, long_set, one_before_the_end, ones, some_sets, zeros
from values import KINDS, NO_LISTS, NO_NUMBERS

FEW = Rows([(0, 1), (0, 2), (2, 2)], [True, True, False])       # no two neighbouring cells are both 1
ENDS_1 = Rows([[0, 1], [0, 1]], [False, True])
GREAT = 10 ** 30
MOST_MODULO = 10 ** 9


def fibonacci(number, modulo=None):
    """The pair of the Fibonacci numbers at number and behind it, by doubling."""
    if number == 0:
        return 0, 1
    one, two = fibonacci(number // 2, modulo)
    one, two = one * (2 * two - one), one * one + two * two
    if number % 2:
        one, two = two, one + two
    return (one, two) if modulo is None else (one % modulo, two % modulo)


def path_counts(rows, length):
    counts = {0: 1}
    for _ in range(length):
        after = {}
        for state, count in counts.items():
            for target in rows.steps[state]:
                after[target] = after.get(target, 0) + count
        counts = after
    return sum(count for state, count in counts.items() if rows.last[state])


class Counted(Case):
    def test_short_rows(self):
        for rows in [*some_sets(200, 1), all_rows(), no_rows()]:
            for length in range(1, 9):
                count = len([row for row in SHORT if len(row) == length and row in rows])
                self.assertEqual(rows.counted(length), count)
                self.assertEqual(rows.counted(length, modulo=None), count)
                self.assertEqual(rows.counted(length, modulo=5), count % 5)

    def test_at_1_40_and_1000(self):
        self.assertEqual([FEW.counted(1), FEW.counted(40)], [2, fibonacci(42)[0]])
        self.assertEqual(FEW.counted(1000), fibonacci(1002)[0])
        self.assertEqual(FEW.counted(1000, modulo=MOST_MODULO), fibonacci(1002)[0] % MOST_MODULO)
        self.assertEqual(all_rows().counted(1000), 2 ** 1000)
        self.assertEqual(ENDS_1.counted(1000), 2 ** 999)
        self.assertEqual(no_rows().counted(1000), 0)

    def test_beyond_1000(self):
        for length in (1001, 1002, 4096, 10 ** 6, GREAT - 1, GREAT):
            for modulo in (1, 2, 7, 10 ** 9 - 1, MOST_MODULO):
                self.assertEqual(FEW.counted(length, modulo=modulo), fibonacci(length + 2, modulo)[0] % modulo)
                self.assertEqual(all_rows().counted(length, modulo=modulo), pow(2, length, modulo))
                self.assertEqual(ENDS_1.counted(length, modulo=modulo), pow(2, length - 1, modulo))
                self.assertEqual(no_rows().counted(length, modulo=modulo), 0)

    def test_the_same_on_both_sides_of_1000(self):
        for rows in some_sets(40, 2):
            for length in (999, 1000, 1001, 1025, 1500):
                self.assertEqual(rows.counted(length, modulo=10 ** 9 - 7), path_counts(rows, length) % (10 ** 9 - 7))
            self.assertEqual(rows.counted(1000), path_counts(rows, 1000))

    def test_modulo_1(self):
        for length in (1, 40, 1000, 1001, GREAT):
            self.assertEqual(FEW.counted(length, modulo=1), 0)

    def test_16_states_and_17(self):
        for count in (15, 16):
            rows = lengths_set(count, (1, 5))
            self.assertEqual(len(rows), count)
            for length in (1001, GREAT, GREAT - 15, GREAT - 8):
                self.assertEqual(rows.counted(length, modulo=97),
                                 pow(2, length, 97) if length % count in (1, 5) else 0)
        for rows in (lengths_set(17, (1,)), lengths_set(16), long_set(498)):
            self.assertGreater(len(rows), 16)
            for length in (1001, GREAT):
                self.refused(TooLarge("states"), rows.counted, length, modulo=5)
                self.refused(TooLarge("states"), rows.counted, length, modulo=1)
            self.assertEqual(rows.counted(1000, modulo=5), path_counts(rows, 1000) % 5)
        # The least machine counts: here the one that was passed has more states.
        steps = [((k + 1) % 40,) * 2 for k in range(40)]
        self.assertEqual(Rows(steps, [k % 2 == 1 for k in range(40)]).counted(GREAT, modulo=5), 0)

    def test_the_greatest_machines(self):
        self.assertEqual(lengths_set(500, (500 - 1,)).counted(999), 2 ** 999)
        self.assertEqual(lengths_set(500, (1,)).counted(1000), 0)
        self.assertEqual(one_before_the_end(7).counted(1000), 2 ** 999)
        spread = Rows([((2 * k) % 500, (2 * k + 1) % 500) for k in range(500)], [k % 3 == 1 for k in range(500)])
        self.assertEqual(spread.counted(1000), path_counts(spread, 1000))

    def test_wrong_length(self):
        for length in (0, -1, GREAT + 1, -GREAT, *NO_NUMBERS, [1], (1,)):
            self.refused(NoNumber("length"), FEW.counted, length)
            self.refused(NoNumber("length"), FEW.counted, length, modulo=7)
            self.refused(NoNumber("length"), FEW.counted, length, modulo=0)
            self.refused(NoNumber("length"), lengths_set(17).counted, length, modulo=0)

    def test_wrong_modulo(self):
        for modulo in (0, -1, MOST_MODULO + 1, -MOST_MODULO, 10 ** 40, [1], (1,),
                       *[value for value in NO_NUMBERS if value is not None]):
            for length in (1, 1000, 1001, GREAT):
                self.refused(NoNumber("modulo"), FEW.counted, length, modulo=modulo)
                self.refused(NoNumber("modulo"), lengths_set(17).counted, length, modulo=modulo)
        for length in (1001, GREAT):
            self.refused(NoNumber("modulo"), FEW.counted, length)
            self.refused(NoNumber("modulo"), FEW.counted, length, modulo=None)
            self.refused(NoNumber("modulo"), lengths_set(17).counted, length)

    def test_by_name(self):
        self.assertEqual(FEW.counted(modulo=3, length=5), 13 % 3)
        with self.assertRaises(TypeError):
            FEW.counted(5, 3)


class RowAndPlace(Case):
    def test_each_is_the_inverse_of_the_other(self):
        for rows in [*some_sets(150, 3), all_rows(), FEW, ENDS_1]:
            for length in range(1, 8):
                listed = sorted(row for row in SHORT if len(row) == length and row in rows)
                for number, row in enumerate(listed):
                    self.assertEqual(rows.row(length, number), row)
                    self.assertEqual(rows.place(row), number)
                    self.assertEqual(rows.place(list(row)), number)
                for number in (len(listed), len(listed) + 1, -1):
                    self.refused(NoNumber("number"), rows.row, length, number)

    def test_at_length_200(self):
        for rows in (FEW, all_rows(), ENDS_1, lengths_set(500, (200,)), one_before_the_end(7)):
            count = rows.counted(200)
            for number in (0, 1, count // 3, count // 2, count - 2, count - 1):
                row = rows.row(200, number)
                self.assertEqual([len(row), row in rows, rows.place(row)], [200, True, number])
                self.assertIs(type(row), tuple)
            self.refused(NoNumber("number"), rows.row, 200, count)
        self.assertEqual(all_rows().row(200, 5), (*(0,) * 197, 1, 0, 1))
        self.assertEqual(all_rows().place((1,) * 200), 2 ** 200 - 1)
        self.assertEqual(FEW.row(200, 0), (0,) * 200)
        self.assertEqual(FEW.row(200, fibonacci(202)[0] - 1), (1, 0) * 100)

    def test_wrong_length(self):
        for length in (0, -1, 201, GREAT, *NO_NUMBERS, [1], (1,)):
            self.refused(NoNumber("length"), FEW.row, length, 0)
            self.refused(NoNumber("length"), FEW.row, length, -1)
            self.refused(NoNumber("length"), no_rows().row, length, None)

    def test_wrong_number(self):
        for number in (-1, 13, 10 ** 40, -10 ** 40, *NO_NUMBERS, [1], (1,)):
            self.refused(NoNumber("number"), FEW.row, 5, number)
        for number in (0, 1, -1, None):
            self.refused(NoNumber("number"), no_rows().row, 5, number)
            self.refused(NoNumber("number"), rows_of([(0, 1)]).row, 3, number)

    def test_place_of_what_is_no_row(self):
        for value in (*NO_LISTS, [], (), [0] * 201, [None] * 201):
            self.refused(NoRow(-1), FEW.place, value)
        for item in (*NO_NUMBERS, 2, -1, 10 ** 40, [1], (1,)):
            self.refused(NoRow(0), FEW.place, [item, 1, None])
            self.refused(NoRow(1), FEW.place, (1, item, None))
            self.refused(NoRow(199), FEW.place, [1] * 199 + [item])

    def test_place_of_a_row_that_is_not_in_the_set(self):
        for row in ((1, 1), [0, 1, 1, 0], (0,) * 198 + (1, 1)):
            self.refused(NoRow(-1), FEW.place, row)
        self.refused(NoRow(-1), no_rows().place, (0,))

    def test_by_name(self):
        self.assertEqual(FEW.row(number=3, length=3), (1, 0, 0))
        self.assertEqual(FEW.place(row=(1, 0, 1)), 4)


class Listed(Case):
    def test_all_rows_in_their_order(self):
        for rows in [*some_sets(100, 4), all_rows(), no_rows(), FEW]:
            for length in range(1, 9):
                self.assertEqual(list(rows.listed(length)),
                                 sorted(row for row in SHORT if len(row) == length and row in rows))

    def test_at_1_and_12(self):
        self.assertEqual(list(all_rows().listed(1)), [(0,), (1,)])
        self.assertEqual(list(all_rows().listed(12)), list(itertools.product((0, 1), repeat=12)))
        self.assertEqual(len(list(FEW.listed(12))), 377)
        self.assertEqual(list(lengths_set(500, (12,)).listed(12)), list(itertools.product((0, 1), repeat=12)))
        self.assertEqual(list(lengths_set(500, (12,)).listed(11)), [])

    def test_a_wrong_length_is_told_when_it_is_iterated_over(self):
        for length in (0, -1, 13, GREAT, *NO_NUMBERS, [1], (1,)):
            for rows in (FEW, no_rows()):
                listed = rows.listed(length)
                self.refused(NoNumber("length"), list, listed)
                self.refused(NoNumber("length"), next, rows.listed(length))

    def test_it_is_a_generator(self):
        listed = FEW.listed(length=2)
        self.assertIs(iter(listed), listed)
        self.assertEqual([next(listed), next(listed), next(listed), next(listed, None)], [(0, 0), (0, 1), (1, 0), None])
        self.assertEqual(list(FEW.listed(2)), [(0, 0), (0, 1), (1, 0)])


def by_levels(rows, values, length):
    return sum(all(level(row, value) in rows for value in range(1, values))
               for row in itertools.product(range(values), repeat=length))


class Valued(Case):
    def test_against_all_rows_of_a_few_cells(self):
        for rows in [*some_sets(25, 5, 5), all_rows(), no_rows(), FEW, ENDS_1, rows_of([(0, 1), (1, 1), (0, 0)])]:
            for values, most in ((2, 8), (3, 6), (4, 5)):
                for length in range(1, most):
                    count = by_levels(rows, values, length)
                    self.assertEqual(valued(rows, values, length), count)
                    self.assertEqual(valued(rows, values, length, modulo=7), count % 7)

    def test_two_values_are_counted(self):
        for rows in (FEW, ENDS_1, lengths_set(500, (1,)), long_set(498)):
            for length in (1, 498, 999, 1000):
                self.assertEqual(valued(rows, 2, length), rows.counted(length))
        self.assertEqual(valued(FEW, 2, GREAT, modulo=10 ** 9), FEW.counted(GREAT, modulo=10 ** 9))

    def test_great_lengths(self):
        for values in (2, 3, 4):
            self.assertEqual(valued(all_rows(), values, 1000), values ** 1000)
            self.assertEqual(valued(no_rows(), values, 1000), 0)
            for length in (1001, GREAT):
                self.assertEqual(valued(all_rows(), values, length, modulo=10 ** 9), pow(values, length, 10 ** 9))
                self.assertEqual(valued(no_rows(), values, length, modulo=10 ** 9), 0)
                self.assertEqual(valued(FEW, values, length, modulo=1), 0)
                # All levels end with 1 exactly if the last cell has the greatest value.
                self.assertEqual(valued(ENDS_1, values, length, modulo=10 ** 9), pow(values, length - 1, 10 ** 9))

    def test_the_same_on_both_sides_of_1000(self):
        # No two neighbouring cells above 0: a cell that is not 0 stands behind a 0, and has values - 1 values.
        for values in (2, 3):
            zero, other = 1, values - 1
            for _ in range(1499):
                zero, other = zero + other, (values - 1) * zero
            self.assertEqual(valued(FEW, values, 1500, modulo=10 ** 9), (zero + other) % 10 ** 9)

    def test_500_tuples_and_more(self):
        # One level of a row in a round of lengths is as far as any other one.
        self.assertEqual(valued(lengths_set(500, (1,)), 4, 501), 4 ** 501)
        self.assertEqual(valued(long_set(498), 4, 498), 4 ** 498)
        # A greater level has no more 1s, so of n states that count 1s n * (n + 1) / 2 pairs are reached.
        for values, fits, beyond in ((3, 31, 32), (4, 13, 14)):
            valued(ones(fits), values, 5)
            for length in (5, 1001):
                self.refused(TooMany(500), valued, ones(beyond), values, length, modulo=5)
        self.assertEqual(valued(ones(500), 2, 499), ones(500).counted(499))

    def test_too_many_also_where_nothing_can_be_accepted(self):
        # Behind the first 1 in one level nothing is accepted, and the other level goes on by itself: 2 * n + 2 tuples.
        self.assertEqual(valued(zeros(249), 3, 249), 1)
        self.assertEqual(valued(zeros(498), 2, 498), 1)
        for length in (1, 250):
            self.refused(TooMany(500), valued, zeros(250), 3, length)

    def test_16_tuples_and_more(self):
        for count in (16, 17):
            rows = lengths_set(count, (1,))
            for values in (2, 3, 4):
                self.assertEqual(valued(rows, values, 1000, modulo=7), pow(values, 1000, 7) * (1000 % count == 1))
                if count == 16:
                    self.assertEqual(valued(rows, values, GREAT + 1 - 16, modulo=7), pow(values, GREAT - 15, 7))
                else:
                    self.refused(TooLarge("states"), valued, rows, values, 1001, modulo=7)
        # Five states, and 15 pairs of them or 35 triples.
        self.assertEqual(len(ones(5)), 5)
        valued(ones(5), 3, GREAT, modulo=7)
        self.refused(TooLarge("states"), valued, ones(5), 4, GREAT, modulo=7)
        self.refused(TooLarge("states"), valued, ones(6), 3, GREAT, modulo=7)

    def test_errors_in_their_order(self):
        for rows in (*KINDS, FEW.steps, [FEW], Rows):
            for values, length, modulo in ((2, 5, None), (5, 0, 0), (None, None, None)):
                self.refused(NoRows("rows", -1), valued, rows, values, length, modulo=modulo)
        many = ones(40)
        for values in (0, 1, 5, -2, 10 ** 40, *NO_NUMBERS, [2], (2,)):
            for length, modulo in ((5, None), (0, 0), (None, "")):
                self.refused(NoNumber("values"), valued, FEW, values, length, modulo=modulo)
                self.refused(NoNumber("values"), valued, many, values, length, modulo=modulo)
        for length in (0, -1, GREAT + 1, *NO_NUMBERS, [1], (1,)):
            for rows in (FEW, many):
                self.refused(NoNumber("length"), valued, rows, 3, length)
                self.refused(NoNumber("length"), valued, rows, 3, length, modulo=0)
        for modulo in (0, -1, 10 ** 9 + 1, [1], (1,), *[value for value in NO_NUMBERS if value is not None]):
            for length in (1, 1000, 1001):
                self.refused(NoNumber("modulo"), valued, FEW, 3, length, modulo=modulo)
                self.refused(NoNumber("modulo"), valued, many, 3, length, modulo=modulo)
        for rows in (FEW, many):
            self.refused(NoNumber("modulo"), valued, rows, 3, 1001)
        self.refused(TooMany(500), valued, many, 3, 1001, modulo=7)
        self.refused(TooMany(500), valued, many, 3, 5)

    def test_by_name(self):
        self.assertEqual(valued(modulo=4, length=2, values=3, rows=FEW), by_levels(FEW, 3, 2) % 4)
        with self.assertRaises(TypeError):
            valued(FEW, 3, 2, 4)


if __name__ == "__main__":
    unittest.main()
