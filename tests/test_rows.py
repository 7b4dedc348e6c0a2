"""Point [2], and what point [1] says of its functions."""
import unittest

from ranksweeps.errors import NoNumber, NoRow
from ranksweeps.rows import bits_of, is_bits, is_row, level, levels, row_of
from values import NO_LISTS, NO_NUMBERS

PLACES = (0, 2, 4)
NEEDING_A_ROW = {
    "row_of": row_of,
    "level": lambda row: level(row, 1),
    "levels": levels,
}


class Asking(unittest.TestCase):
    def check(self, value, row, bits):
        with self.subTest(value=value):
            self.assertIs(is_row(value), row)
            self.assertIs(is_bits(value), bits)

    def test_rows(self):
        for row in ((5,), (-1, 0, 1), (2, 2), (10 ** 99, -10 ** 99)):
            self.check(row, True, False)
            self.check(list(row), True, False)

    def test_rows_of_0_and_1(self):
        for row in ((0,), (1,), (0, 1, 1), (1, 1, 1)):
            self.check(row, True, True)
            self.check(list(row), True, True)

    def test_lengths(self):
        for kind in (list, tuple):
            self.check(kind(()), False, False)
            self.check(kind((1,)), True, True)
            self.check(kind((0, 1) * 100), True, True)
            self.check(kind((0, 1) * 100 + (0,)), False, False)

    def test_neither_list_nor_tuple(self):
        for value in NO_LISTS:
            self.check(value, False, False)

    def test_items_that_are_no_integers(self):
        for item in NO_NUMBERS + ([0], (1,)):
            for place in PLACES:
                row = [0, 1, 0, 1, 1]
                row[place] = item
                self.check(row, False, False)
                self.check(tuple(row), False, False)

    def test_integers_other_than_0_and_1(self):
        for item in (-1, 2, 10 ** 99):
            for place in PLACES:
                row = [0, 1, 0, 1, 1]
                row[place] = item
                self.check(row, True, False)

    def test_by_name(self):
        self.assertIs(is_row(value=[3]), True)
        self.assertIs(is_bits(value=[3]), False)


class Refusing(unittest.TestCase):
    def refused(self, call, value, index):
        with self.subTest(value=value):
            with self.assertRaises(NoRow) as caught:
                call(value)
            self.assertEqual(caught.exception.index, index)

    def test_the_value_as_a_whole(self):
        for call in (*NEEDING_A_ROW.values(), bits_of):
            for value in (*NO_LISTS, [], (), [0] * 201, (1,) * 201):
                self.refused(call, value, -1)

    def test_too_long_ahead_of_a_bad_item(self):
        for call in (*NEEDING_A_ROW.values(), bits_of):
            for place in (0, 100, 200):
                row = [0] * 201
                row[place] = None
                self.refused(call, row, -1)

    def test_the_first_bad_item(self):
        for call in (*NEEDING_A_ROW.values(), bits_of):
            for item in NO_NUMBERS + ([0], (1,)):
                for place in PLACES:
                    row = [0, 1, 0, 1, 1]
                    row[place] = item
                    self.refused(call, row, place)
                    self.refused(call, tuple(row), place)
                    self.refused(call, row + [None], place)

    def test_the_first_item_that_is_not_0_or_1(self):
        for item in (-1, 2, 10 ** 99):
            for place in PLACES:
                row = [0, 1, 0, 1, 1]
                row[place] = item
                self.refused(bits_of, row, place)
                self.refused(bits_of, row + [None], place)

    def test_the_last_item_of_the_longest_row(self):
        for call in (*NEEDING_A_ROW.values(), bits_of):
            self.refused(call, [0] * 199 + [True], 199)


class Tuples(unittest.TestCase):
    def test_rows_are_returned_as_tuples(self):
        for row in ([1], [0, 1, 0], [1] * 200):
            for call in (row_of, bits_of):
                self.assertEqual(call(row), tuple(row))
                self.assertEqual(call(tuple(row)), tuple(row))
        self.assertEqual(row_of([5, -3]), (5, -3))


class Levels(unittest.TestCase):
    def test_the_example_of_the_document(self):
        with self.assertRaises(NoRow) as caught:
            level((1, 2, True), 1)
        self.assertEqual(caught.exception.index, 2)

    def test_below_between_at_and_above_the_cells(self):
        row = (5, 1, 4, 4, 0)
        for value, bits in ((-1, (1, 1, 1, 1, 1)), (0, (1, 1, 1, 1, 1)), (1, (1, 1, 1, 1, 0)),
                            (2, (1, 0, 1, 1, 0)), (4, (1, 0, 1, 1, 0)), (5, (1, 0, 0, 0, 0)),
                            (6, (0, 0, 0, 0, 0))):
            with self.subTest(value):
                self.assertEqual(level(row, value), bits)
                self.assertEqual(level(list(row), value), bits)

    def test_large_and_negative_cells(self):
        row = (-10 ** 99, -1, 10 ** 99)
        self.assertEqual(level(row, -10 ** 99), (1, 1, 1))
        self.assertEqual(level(row, 1 - 10 ** 99), (0, 1, 1))
        self.assertEqual(level(row, 10 ** 99), (0, 0, 1))
        self.assertEqual(level(row, 10 ** 99 + 1), (0, 0, 0))

    def test_rows_of_1_and_of_200(self):
        self.assertEqual(level([3], 3), (1,))
        self.assertEqual(level([3, 4] * 100, 4), (0, 1) * 100)

    def test_a_level_is_a_tuple_of_integers(self):
        bits = level([2, 1], 2)
        self.assertIs(type(bits), tuple)
        self.assertEqual([type(bit) for bit in bits], [int, int])

    def test_a_value_that_is_no_integer(self):
        for value in NO_NUMBERS + ([1], (1,)):
            with self.subTest(value=value):
                with self.assertRaises(NoNumber) as caught:
                    level((1, 2), value)
                self.assertEqual(caught.exception.name, "value")

    def test_no_row_ahead_of_no_number(self):
        for row, index in (([], -1), ((1, "x"), 1), (None, -1)):
            with self.assertRaises(NoRow) as caught:
                level(row, None)
            self.assertEqual(caught.exception.index, index)

    def test_the_different_cells_ascending(self):
        for row, found in (((5, 1, 4, 4, 0), [0, 1, 4, 5]), ((3,), [3]), ((2,) * 200, [2]),
                           ((-2, -1, -2, 10, 9), [-2, -1, 9, 10]), (range(200, 0, -1), list(range(1, 201)))):
            self.assertEqual(levels(tuple(row)), found)
            self.assertEqual(levels(list(row)), found)

    def test_levels_is_a_new_list_each_time(self):
        row = [2, 1]
        first = levels(row)
        self.assertIs(type(first), list)
        first.append(9)
        self.assertEqual(levels(row), [1, 2])

    def test_arguments_stay_as_they_were(self):
        row = [3, 1, 2, 1]
        level(row, 2)
        levels(row)
        is_row(row)
        is_bits(row)
        self.assertEqual(row, [3, 1, 2, 1])

    def test_by_name(self):
        self.assertEqual(level(value=2, row=[1, 2]), (0, 1))
        self.assertEqual(levels(row=[2, 1]), [1, 2])


if __name__ == "__main__":
    unittest.main()
