"""Point [6]: what Rows holds, its least machine, its errors, what is in it, equality, and small sets; [1] for these."""
import itertools
import unittest

from cases import Case
from ranksweeps.errors import NoRow, NoRows, TooMany
from ranksweeps.machines import Rows, all_rows, no_rows, rows_of
from row_sets import SHORT, least_size, lengths_set, long_set, numbering, short_rows, some_machines, some_sets, taken
from values import KINDS, NO_LISTS, NO_NUMBERS

FEW = ([(0, 1), (0, 2), (2, 2)], [True, True, False])       # no two neighbouring cells are both 1
ENDS_1 = ([[0, 1], [0, 1]], [False, True])                  # the last cell is 1


class Examples(Case):
    def test_the_examples_of_the_document(self):
        rows = Rows([[0, 1], [0, 1]], [False, True])
        self.assertEqual([len(rows), (0, 1) in rows, (1, 0) in rows, rows.counted(5), rows.least()],
                         [2, True, False, 16, (1,)])
        rows = Rows([(0, 1), (0, 2), (2, 2)], [True, True, False])
        self.assertEqual([rows.steps, rows.last],
                         [((1, 2), (1, 2), (1, 3), (3, 3)), (False, True, True, False)])
        self.assertEqual([rows.counted(1), rows.counted(2), rows.counted(3), rows.counted(4), rows.counted(5)],
                         [2, 3, 5, 8, 13])
        self.assertEqual([rows.row(3, 3), rows.place((1, 0, 1)), rows.longest()], [(1, 0, 0), 4, None])


class LeastMachine(Case):
    def test_the_set_is_that_of_the_machine(self):
        for steps, last in some_machines(300, 1):
            rows = Rows(steps, last)
            self.assertEqual(short_rows(rows), {row for row in SHORT if taken(steps, last, row)})

    def test_it_is_the_least_one_and_numbered_in_breadth(self):
        sizes = set()
        for steps, last in some_machines(300, 2) + some_machines(20, 3, 60):
            rows = Rows(steps, last)
            sizes.add(len(rows) - len(steps))
            self.assertEqual(len(rows.steps), least_size(steps, last))
            self.assertEqual(numbering(rows.steps), list(range(len(rows))))
            self.assertIs(rows.last[0], False)
            self.assertEqual(Rows(rows.steps, rows.last), rows)
        self.assertTrue({1, 0, -1, -2} <= sizes)

    def test_states_that_are_not_reached(self):
        steps, last = ENDS_1
        for more in ([(0, 1)], [(3, 2), (0, 3)], [(2, 2)] * 50):
            self.assertEqual(Rows(steps + more, last + [True] * len(more)), Rows(steps, last))

    def test_equivalent_states(self):
        self.assertEqual(Rows([(1, 2), (3, 4), (1, 2), (1, 4), (3, 2)], [False, False, True, False, True]),
                         Rows(*ENDS_1))
        self.assertEqual(Rows([(1, 1), (2, 2), (0, 0)], [True, True, True]), all_rows())
        self.assertEqual(Rows([(1, 1), (2, 2), (0, 0)], [False] * 3), no_rows())

    def test_a_start_that_is_last_and_reached_again(self):
        rows = Rows([(1, 0), (1, 0)], [True, False])
        self.assertEqual((rows.steps, rows.last), (((0, 1), (0, 1)), (False, True)))
        self.assertEqual(rows, Rows(*ENDS_1))
        # The rows of an even length need one state more than this machine has.
        rows = Rows([(1, 1), (0, 0)], [True, False])
        self.assertEqual((rows.steps, rows.last), (((1, 1), (2, 2), (1, 1)), (False, False, True)))

    def test_a_start_that_is_last_and_not_reached_again(self):
        rows = Rows([(1, 2), (1, 1), (2, 2)], [True, False, True])  # the rows that begin with 1
        self.assertEqual((rows.steps, rows.last), (((1, 2), (1, 1), (2, 2)), (False, False, True)))
        self.assertEqual(rows, Rows([(1, 2), (1, 1), (2, 2)], [False, False, True]))

    def test_last_0_counts_for_the_rows_that_lead_back(self):
        first, second = Rows([(0, 1), (1, 1)], [True, False]), Rows([(0, 1), (1, 1)], [False, False])
        self.assertEqual(short_rows(first), {row for row in SHORT if 1 not in row})
        self.assertEqual(second, no_rows())

    def test_it_is_numbered_anew(self):
        rows = Rows([(3, 1), (1, 1), (0, 0), (2, 1)], [False, False, True, False])
        self.assertEqual(numbering(rows.steps), list(range(len(rows))))
        self.assertEqual((rows.steps, rows.last),
                         (((1, 2), (3, 2), (2, 2), (0, 0)), (False, False, False, True)))

    def test_the_empty_set_and_the_set_of_all_rows(self):
        self.assertEqual((no_rows().steps, no_rows().last), (((0, 0),), (False,)))
        self.assertEqual((all_rows().steps, all_rows().last), (((1, 1), (1, 1)), (False, True)))
        self.assertEqual((len(no_rows()), len(all_rows())), (1, 2))
        self.assertEqual(Rows([(0, 0)], [True]), all_rows())
        self.assertEqual(Rows([(0, 0)], [False]), no_rows())
        self.assertEqual(Rows([(0, 1), (1, 1)], (False, False)), no_rows())
        self.assertEqual((short_rows(no_rows()), short_rows(all_rows())), (set(), set(SHORT)))

    def test_499_500_and_501_states(self):
        for count in (499, 500):
            self.assertEqual(len(lengths_set(count, (1,))), count)
            self.assertEqual(len(long_set(count - 2)), count)
        self.assertEqual(len(lengths_set(499)), 500)
        self.refused(TooMany(500), Rows, [((k + 1) % 500,) * 2 for k in range(500)], [k == 0 for k in range(500)])
        self.refused(TooMany(500), Rows, [((k + 1) % 500, 0) for k in range(500)], [k % 7 == 0 for k in range(500)])
        # A start that is last is no reason for it where it is not reached again, or where states are equivalent.
        self.assertEqual(len(Rows([(min(k + 1, 499),) * 2 for k in range(500)], [k in (0, 498) for k in range(500)])),
                         500)
        self.assertEqual(len(Rows([((k + 1) % 500,) * 2 for k in range(500)], [k % 2 == 0 for k in range(500)])), 3)

    def test_hundreds_of_states_in_one_group(self):
        chain = [(k + 1, 0) if k < 499 else (499, 499) for k in range(500)]
        self.assertEqual(len(Rows(chain, [k == 499 for k in range(500)])), 500)
        self.assertEqual(len(Rows(chain, [k >= 250 for k in range(500)])), 500)
        self.assertEqual(len(Rows([(k // 2, k // 3) for k in range(500)], [k == 0 for k in range(500)])), 2)


class Wrong(Case):
    def test_steps_that_are_no_machine(self):
        for steps in (*NO_LISTS, [], (), [(0, 0)] * 501, [None] * 501, Rows(*FEW)):
            self.refused(NoRows("steps", -1), Rows, steps, [False])
            self.refused(NoRows("steps", -1), Rows, steps, None)
            self.refused(NoRows("steps", -1), Rows, steps, [])

    def test_a_wrong_step_at_each_place(self):
        wrong = [value for value in (*NO_NUMBERS, *NO_LISTS, [0], (0,), [0, 0, 0], (0, 3), (3, 0), (-1, 0), [0, -1],
                                     (10 ** 40, 0), (0, -10 ** 40), ([0], 0), (0, (0,)))]
        wrong += [pair for value in (*NO_NUMBERS, -1, 3) for pair in ((value, 0), [0, value])]
        for value in wrong:
            for place in range(3):
                steps = [(0, 1), [1, 2], (2, 0)]
                steps[place] = value
                self.refused(NoRows("steps", place), Rows, steps, [True, False, False])
                self.refused(NoRows("steps", place), Rows, tuple(steps), None)
                self.refused(NoRows("steps", place), Rows, steps[:place + 1] + [None] * (2 - place), [None] * 3)

    def test_state_numbers_at_their_bound(self):
        self.assertEqual(len(Rows([(2, 2), (0, 0), (1, 1)], [False, False, True])), 3)
        self.refused(NoRows("steps", 0), Rows, [(1, 0)], [False])
        self.refused(NoRows("steps", 499), Rows, [(0, 0)] * 499 + [(0, 500)], [False] * 500)

    def test_last_that_is_no_list_of_as_many_items(self):
        for last in (*NO_LISTS, [], (), [False], [False] * 2, (True,) * 4, [None] * 4):
            self.refused(NoRows("last", -1), Rows, FEW[0], last)
        self.refused(NoRows("last", -1), Rows, [(0, 0)], [])

    def test_a_wrong_flag_at_each_place(self):
        for value in (0, 1, None, "", "True", b"", 1.0, [], [True], (False,), {}, 10 ** 40, Rows(*FEW)):
            for place in range(3):
                last = [True, False, True]
                last[place] = value
                self.refused(NoRows("last", place), Rows, FEW[0], last)
                self.refused(NoRows("last", place), Rows, FEW[0], tuple(last[:place + 1] + [None] * (2 - place)))

    def test_wrong_ahead_of_too_many(self):
        steps = [((k + 1) % 500,) * 2 for k in range(500)]
        last = [k == 0 for k in range(500)]
        self.refused(NoRows("steps", 499), Rows, steps[:-1] + [(0, True)], last)
        self.refused(NoRows("last", 499), Rows, steps, last[:-1] + [0])
        self.refused(NoRows("last", -1), Rows, steps, last + [False])


class General(Case):
    def test_attributes_are_tuples(self):
        for rows in (Rows([[0, 1], [0, 1]], [False, True]), Rows(((0, 1), (0, 1)), (False, True)), rows_of([[0, 1]])):
            self.assertEqual([type(rows.steps), type(rows.last)], [tuple, tuple])
            self.assertEqual({type(step) for step in rows.steps}, {tuple})
            self.assertEqual({type(flag) for flag in rows.last}, {bool})

    def test_lists_and_tuples_alike(self):
        for steps, last in (FEW, ENDS_1):
            self.assertEqual(Rows([list(step) for step in steps], list(last)),
                             Rows(tuple(tuple(step) for step in steps), tuple(last)))

    def test_arguments_are_copied_and_stay_as_they_were(self):
        steps, last = [[0, 1], [0, 2], [2, 2]], [True, True, False]
        rows = Rows(steps, last)
        self.assertEqual((steps, last), ([[0, 1], [0, 2], [2, 2]], [True, True, False]))
        steps[0][1] = 0
        steps.append([0, 0])
        last[0] = False
        self.assertEqual(rows, Rows(*FEW))
        self.assertEqual(rows.counted(3), 5)

    def test_by_name(self):
        self.assertEqual(Rows(last=FEW[1], steps=FEW[0]), Rows(*FEW))
        self.assertEqual(rows_of(some=[(1,)]), rows_of([(1,)]))

    def test_it_is_not_iterated_over(self):
        with self.assertRaises(TypeError):
            list(Rows(*FEW))

    def test_own_methods(self):
        for name in ("__init__", "__len__", "__contains__", "__eq__", "__le__", "__lt__", "__ge__", "__gt__", "__and__",
                     "__or__", "__sub__", "__xor__", "__invert__", "mirrored", "turned", "least", "is_finite",
                     "longest", "counted", "row", "place", "listed"):
            self.assertIn(name, vars(Rows))


class Within(Case):
    rows = Rows(*ENDS_1)

    def test_rows(self):
        for row in SHORT:
            self.assertIs(row in self.rows, row[-1] == 1)
            self.assertIs(list(row) in self.rows, row[-1] == 1)

    def test_rows_of_many_cells(self):
        self.assertIs([0] * 9999 + [1] in self.rows, True)
        self.assertIs((1,) * 201 in self.rows, True)
        self.assertIs([1] * 10000 + [0] in self.rows, False)

    def test_what_is_no_row_of_bits(self):
        for rows in (self.rows, all_rows(), ~no_rows(), no_rows()):
            for value in (*NO_LISTS, [], ()):
                self.assertIs(value in rows, False)
            for item in (*NO_NUMBERS, 2, -1, 10 ** 40, [1], (1,)):
                self.assertIs([item] in rows, False)
                self.assertIs((item, 1) in rows, False)
                self.assertIs([1, item, 1] in rows, False)
                self.assertIs([0] * 300 + [item] in rows, False)


class Equality(Case):
    def test_equal_exactly_for_the_same_set(self):
        # Machines of 3 states part within 8 cells, or never.
        sets = [(rows, short_rows(rows)) for rows in some_sets(60, 4, 3) if len(rows) <= 3]
        for (rows, short), (other, other_short) in itertools.product(sets, repeat=2):
            self.assertIs(rows == other, short == other_short)
            self.assertIs(rows != other, short != other_short)

    def test_no_other_value_is_equal(self):
        rows = Rows(*FEW)
        for value in (*KINDS, rows.steps, (rows.steps, rows.last), [rows], (rows,)):
            self.assertIs(rows == value, False)
            self.assertIs(value == rows, False)
            self.assertIs(rows != value, True)


class RowsOf(Case):
    def test_given_rows(self):
        for some in ([(0,)], [(1,), (0, 1), (0, 1, 1)], [(0, 0), (0, 0), [0, 0]], ((1,) * 12, [0] * 12, (0,)),
                     SHORT[:30], SHORT[-30:], [(0,) * k for k in range(1, 13)]):
            rows = rows_of(some)
            self.assertEqual(short_rows(rows), {tuple(row) for row in some if len(row) <= 8})
            self.assertEqual(sum(rows.counted(length) for length in range(1, 13)), len({tuple(row) for row in some}))
            self.assertTrue(all(row in rows for row in some))
            self.assertEqual(rows_of(tuple(some)), rows)
            self.assertEqual(rows_of([list(row) for row in reversed(some)]), rows)
            self.assertEqual(len(rows), least_size(rows.steps, rows.last))

    def test_no_item(self):
        self.assertEqual(rows_of([]), no_rows())
        self.assertEqual(rows_of(()), no_rows())

    def test_30_long_rows(self):
        # All of them part at the second half, so hardly any two share a state.
        some = [tuple(number * 37 % 64 >> place & 1 for place in range(6)) + tuple(number * 101 >> place & 1
                for place in range(6)) for number in range(30)]
        rows = rows_of(some)
        self.assertEqual(list(rows.listed(12)), sorted(set(some)))

    def test_wrong_as_a_whole(self):
        for some in (*NO_LISTS, [(0,)] * 31, [None] * 31, Rows(*FEW)):
            self.refused(NoRow(-1), rows_of, some)
        self.assertEqual(rows_of([(0,)] * 30), rows_of([(0,)]))

    def test_a_wrong_item(self):
        wrong = [*NO_LISTS, [], (), [0] * 13, (1,) * 13, (0, 2), [-1], [0, None], (True,), (0, False), ["0"], [[0]],
                 [0] * 201]
        for value in wrong:
            self.refused(NoRow(0), rows_of, [value])
            self.refused(NoRow(1), rows_of, ((1,), value, (0,)))
            self.refused(NoRow(1), rows_of, [(1,), value, None])
            self.refused(NoRow(29), rows_of, [(1, 0)] * 29 + [value])

    def test_items_are_copied(self):
        some = [[0, 1], [1]]
        rows = rows_of(some)
        some[0][0] = 1
        some.append([0])
        self.assertEqual(short_rows(rows), {(0, 1), (1,)})


if __name__ == "__main__":
    unittest.main()
