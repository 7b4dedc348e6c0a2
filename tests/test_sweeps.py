"""Point [3], what point [4] says of sweeps, and what point [1] says of both."""
import itertools
import unittest

from by_words import some_rows, some_sweeps, swept
from ranksweeps.chains import Chain
from ranksweeps.errors import NoRow, NoSweep, TooLarge
from ranksweeps.rows import level
from ranksweeps.sweeps import Sweep
from values import KINDS, NO_LISTS, NO_NUMBERS

GOOD = {"weights": (1, 0, 2), "rank": 2, "own": 1, "ends": "cut", "way": "on"}
WRONG = {
    "weights": (*NO_LISTS, [], (), [1] * 8, (1,) * 8, [0], (0,) * 7, [4], (1, -1), (2, -1), [3, -1, 3], [1, 1, 4],
                [1, 10 ** 40], [True], (1, False), [None], (1, "1"), (1, 1.0), [[1]], ((1,),), [1, 1, (1,)]),
    "rank": (*NO_NUMBERS, [1], (1,), 0, -1, 4, 10 ** 40, -10 ** 40),
    "own": (*[value for value in NO_NUMBERS if value is not None], [1], (1,), -1, 3, 10 ** 40, -10 ** 40),
    "ends": (*KINDS, "Held", "held ", "all", ["held"], ("cut",), b"cut"),
    "way": (*KINDS, "On", "on ", "held", ["on"], ("all",), b"all"),
}


def made_with(arguments):
    return Sweep(arguments["weights"], arguments["rank"], own=arguments["own"], ends=arguments["ends"],
                 way=arguments["way"])


class Examples(unittest.TestCase):
    def test_the_examples_of_the_document(self):
        self.assertEqual(Sweep((1, 1, 1), 2)((5, 1, 4, 4, 0)), (5, 4, 4, 4, 0))
        self.assertEqual(Sweep((1, 0), 1, own=1)((5, 1, 4, 4, 0)), (5, 5, 1, 4, 4))
        self.assertEqual(Sweep((1, 1, 1), 3, ends="cut")((5, 1, 4, 4, 0)), (5, 5, 4, 4, 4))
        self.assertEqual(Sweep((1, 1), 2, own=1, way="on")((3, 5, 1, 4)), (3, 5, 5, 5))
        self.assertEqual(Sweep((1, 1), 2, own=1, way="all")((3, 5, 1, 4)), (3, 5, 5, 4))
        self.assertEqual(Sweep((1, 0), 1, own=1, way="on")((3, 5, 1, 4)), (3, 3, 3, 3))
        with self.assertRaises(NoSweep) as caught:
            Sweep((1, 1), 3)
        self.assertEqual(caught.exception.part, "rank")

    def test_the_example_of_chains(self):
        chain = Sweep((1, 0), 1, own=1) >> Sweep((0, 1), 1, own=0)
        self.assertEqual([chain((1, 2, 3)), chain.kind, chain.size, chain.reach], [(1, 2, 2), "then", 2, (1, 1)])
        self.assertEqual(chain.parts[0]((1, 2, 3)), (1, 1, 2))


class Making(unittest.TestCase):
    """Rows that were worked out by hand."""

    def test_weights_count_neighbours_several_times(self):
        self.assertEqual(Sweep((1, 2, 1), 2)((1, 5, 2, 8)), (1, 2, 2, 8))
        self.assertEqual(Sweep((1, 2, 1), 3)((1, 5, 2, 8)), (1, 5, 5, 8))
        self.assertEqual(Sweep((3, 0, 1), 3)((1, 5, 2, 8)), (1, 1, 5, 2))
        self.assertEqual(Sweep((3, 0, 1), 4)((1, 5, 2, 8)), (5, 2, 8, 8))

    def test_each_rank(self):
        row = (4, 1, 3, 5)
        for rank, made in ((1, (1, 1, 1, 3)), (2, (4, 3, 3, 5)), (3, (4, 4, 5, 5))):
            self.assertEqual(Sweep((1, 1, 1), rank)(row), made)

    def test_ways_with_neighbours_on_both_sides(self):
        self.assertEqual(Sweep((1, 0, 1), 2)((3, 1, 4, 2, 0)), (3, 4, 2, 4, 2))
        self.assertEqual(Sweep((1, 0, 1), 2, way="on")((3, 1, 4, 2, 0)), (3, 4, 4, 4, 4))
        self.assertEqual(Sweep((1, 0, 1), 1, way="on")((3, 1, 4, 2, 0)), (1, 1, 1, 0, 0))
        self.assertEqual(Sweep((1, 0, 1), 2, way="back")((3, 1, 4, 2, 0)), (4, 4, 4, 4, 2))
        self.assertEqual(Sweep((1, 0, 1), 1, way="back")((3, 1, 4, 2, 0)), (0, 0, 0, 0, 0))
        self.assertEqual(Sweep((1, 0, 1), 1, way="back")((3, 1, 4, 0, 2)), (0, 0, 0, 0, 0))
        self.assertEqual(Sweep((1, 0, 1), 1, way="back")((0, 3, 1, 4, 2)), (0, 0, 1, 1, 2))

    def test_held_ends_have_the_value_from_before_the_sweep(self):
        # Cell 0 becomes 1 first, and cell 1 still sees 3 in the place of the neighbour before cell 0.
        self.assertEqual(Sweep((1, 0, 0, 1), 1, own=2, way="on")((3, 1, 9)), (1, 3, 1))
        self.assertEqual(Sweep((1, 0, 0, 1), 1, own=1, way="back")((9, 1, 3)), (1, 3, 1))
        self.assertEqual(Sweep((1, 0, 0), 1, own=2, way="on")((3, 1, 0)), (3, 3, 3))
        self.assertEqual(Sweep((0, 0, 1), 1, own=0, way="back")((0, 1, 3)), (3, 3, 3))
        self.assertEqual(Sweep((1, 0, 1), 1, way="back")((5, 1, 4)), (1, 1, 1))
        self.assertEqual(Sweep((0, 2, 1), 2, own=0, way="back")((5, 1, 4)), (4, 4, 4))

    def test_a_rank_beyond_what_is_left_at_a_cut_end(self):
        self.assertEqual(Sweep((1, 1, 1), 3, ends="cut")((2, 1)), (2, 2))
        self.assertEqual(Sweep((3, 0, 1), 4, ends="cut")((5, 1, 4)), (1, 5, 1))
        self.assertEqual(Sweep((3, 0, 1), 2, ends="cut")((5, 1, 4)), (1, 5, 1))
        self.assertEqual(Sweep((1, 1, 1, 1, 1), 4, ends="cut")((5, 1, 4, 2, 3)), (5, 5, 4, 4, 4))

    def test_no_neighbour_left(self):
        self.assertEqual(Sweep((1, 0), 1, own=1, ends="cut")((5, 1, 4)), (5, 5, 1))
        self.assertEqual(Sweep((0, 0, 1), 1, own=0, ends="cut")((5, 1, 4)), (4, 1, 4))
        self.assertEqual(Sweep((1, 0, 0), 1, own=2, ends="cut", way="on")((5, 1, 4, 7)), (5, 1, 5, 1))
        self.assertEqual(Sweep((0, 0, 3), 2, own=0, ends="cut", way="back")((5, 1, 4, 7)), (4, 7, 4, 7))
        for way in ("all", "on", "back"):
            self.assertEqual(Sweep((1, 0, 1), 1, ends="cut", way=way)((7,)), (7,))

    def test_own_at_the_first_and_at_the_last_weight(self):
        row = (5, 1, 4, 7)
        self.assertEqual(Sweep((1, 1, 1), 1, own=0)(row), (1, 1, 4, 7))
        self.assertEqual(Sweep((1, 1, 1), 1, own=2)(row), (5, 1, 1, 1))
        self.assertEqual(Sweep((1, 1, 1), 3, own=0, ends="cut")(row), (5, 7, 7, 7))
        self.assertEqual(Sweep((1, 1, 1), 3, own=2, ends="cut")(row), (5, 5, 5, 7))

    def test_own_far_from_the_weights_that_count(self):
        row = (1, 2, 3, 4, 5, 6, 7, 8)
        self.assertEqual(Sweep((1, 0, 0, 0, 0, 0, 0), 1, own=6)(row), (1, 1, 1, 1, 1, 1, 1, 2))
        self.assertEqual(Sweep((0, 0, 0, 0, 0, 0, 1), 1, own=0)(row), (7, 8, 8, 8, 8, 8, 8, 8))
        self.assertEqual(Sweep((1, 0, 0, 0, 0, 0, 0), 1, own=6, ends="cut")(row), (1, 2, 3, 4, 5, 6, 1, 2))
        self.assertEqual(Sweep((0, 0, 0, 0, 0, 0, 3), 2, own=0, ends="cut")(row), (7, 8, 3, 4, 5, 6, 7, 8))

    def test_weights_with_0_at_their_ends(self):
        row = (5, 1, 4, 7)
        for padded in ((0, 1, 1, 1, 0), (0, 0, 1, 1, 1, 0, 0)):
            for rank in (1, 2, 3):
                for ends in ("held", "cut"):
                    sweep = Sweep(padded, rank, ends=ends)
                    self.assertEqual(sweep(row), Sweep((1, 1, 1), rank, ends=ends)(row))
                    self.assertEqual(sweep.reach, (1, 1))

    def test_the_usual_own_is_the_middle_or_just_before_it(self):
        row = (1, 2, 3, 4, 5)
        for weights, own in (((1,), 0), ((0, 1), 0), ((0, 0, 1), 1), ((0, 0, 0, 1), 1), ((0, 0, 0, 0, 1), 2),
                             ((0, 0, 0, 0, 0, 1), 2), ((0, 0, 0, 0, 0, 0, 1), 3)):
            self.assertEqual(Sweep(weights, 1).own, own)
            self.assertEqual(Sweep(weights, 1)(row), Sweep(weights, 1, own=own)(row))

    def test_rows_of_1_and_of_200(self):
        row = tuple(range(200))
        for sweep in some_sweeps(60, 1):
            self.assertEqual(sweep((-7,)), (-7,))
            self.assertEqual(sweep((4,) * 200), (4,) * 200)
        self.assertEqual(Sweep((1, 0), 1, own=1)(row), (0, *range(199)))
        self.assertEqual(Sweep((0, 1), 1, own=0)(row), (*range(1, 200), 199))
        self.assertEqual(Sweep((1, 1), 2, own=1, way="on")(row[::-1]), (199,) * 200)
        self.assertEqual(Sweep((1, 1), 2, own=0, way="back")(row), (199,) * 200)
        self.assertEqual(Sweep((3,) * 7, 21, ends="cut")(row), (*range(3, 200), 199, 199, 199))

    def test_great_and_negative_cells(self):
        row = (-10 ** 99, 10 ** 99, 0, -10 ** 99 + 1)
        self.assertEqual(Sweep((1, 1, 1), 2)(row), (-10 ** 99, 0, 0, -10 ** 99 + 1))
        self.assertEqual(Sweep((1, 1, 1), 1)(row), (-10 ** 99, -10 ** 99, -10 ** 99 + 1, -10 ** 99 + 1))

    def test_word_by_word(self):
        for sweep in some_sweeps(400, 2):
            for row in some_rows(12, sweep.rank) + some_rows(1, 3, 200, 50) + [tuple(range(9, 0, -1))]:
                with self.subTest(sweep=vars(sweep), row=row):
                    self.assertEqual(sweep(row), swept(sweep, row))

    def test_levels_pass_through(self):
        for sweep in some_sweeps(60, 3):
            for row in some_rows(6, 4):
                for value in range(-4, 4):
                    self.assertEqual(sweep(level(row, value)), level(sweep(row), value))

    def test_a_list_and_a_tuple_give_the_same(self):
        for sweep in some_sweeps(20, 5):
            row = [4, 1, 3, 1]
            self.assertEqual(sweep(row), sweep(tuple(row)))
            self.assertIs(type(sweep(row)), tuple)
            self.assertEqual(row, [4, 1, 3, 1])
            self.assertEqual(sweep(row=row), sweep(row))

    def test_no_row(self):
        for sweep in (Sweep((1,), 1), Sweep((1, 1, 1), 2, ends="cut"), Sweep((1, 0), 1, own=1, way="on")):
            for value in (*NO_LISTS, [], (), [0] * 201, [None] * 201):
                self.refused(sweep, value, -1)
            for item in (*NO_NUMBERS, [1], (1,)):
                self.refused(sweep, [item, 1, None], 0)
                self.refused(sweep, (1, item, None), 1)
                self.refused(sweep, [1] * 199 + [item], 199)

    def refused(self, sweep, row, index):
        with self.assertRaises(NoRow) as caught:
            sweep(row)
        self.assertEqual(caught.exception.index, index)


class Arguments(unittest.TestCase):
    def refused(self, part, arguments):
        with self.subTest(part, arguments=arguments):
            with self.assertRaises(NoSweep) as caught:
                made_with(arguments)
            self.assertEqual(caught.exception.part, part)

    def test_each_wrong_alone(self):
        self.assertEqual(made_with(GOOD).rank, 2)
        for part, values in WRONG.items():
            for value in values:
                self.refused(part, {**GOOD, part: value})

    def test_two_wrong_at_once(self):
        for first, second in itertools.combinations(WRONG, 2):
            for one, two in itertools.product(WRONG[first], WRONG[second][::3]):
                self.refused(first, {**GOOD, first: one, second: two})

    def test_all_wrong(self):
        for values in zip(*(WRONG[part] for part in WRONG)):
            self.refused("weights", dict(zip(WRONG, values)))

    def test_the_bounds_are_allowed(self):
        for weights in ((1,), [3], (0, 0, 0, 0, 0, 0, 1), (3,) * 7, [1, 0]):
            for rank in (1, sum(weights)):
                for own in (None, 0, len(weights) - 1):
                    sweep = Sweep(weights, rank, own=own)
                    self.assertEqual((sweep.weights, sweep.rank), (tuple(weights), rank))
                    if own is not None:
                        self.assertEqual(sweep.own, own)
            with self.assertRaises(NoSweep):
                Sweep(weights, sum(weights) + 1)
            with self.assertRaises(NoSweep):
                Sweep(weights, 1, own=len(weights))

    def test_usual_values(self):
        sweep = Sweep((1, 1, 1, 1), 2)
        self.assertEqual((sweep.own, sweep.ends, sweep.way), (1, "held", "all"))
        self.assertEqual(sweep, Sweep((1, 1, 1, 1), 2, own=1, ends="held", way="all"))
        self.assertEqual(Sweep((1, 0), 1, own=None).own, 0)

    def test_by_name_in_any_order(self):
        sweep = Sweep(way="on", ends="cut", own=1, rank=2, weights=(1, 0, 2))
        self.assertEqual(sweep, made_with(GOOD))
        self.assertEqual(Sweep(rank=1, weights=[1]), Sweep([1], 1))
        self.assertEqual(Sweep((1, 2), rank=3, way="back", own=0), Sweep((1, 2), 3, own=0, ends="held", way="back"))

    def test_what_stands_behind_the_star_is_passed_by_name_only(self):
        with self.assertRaises(TypeError):
            Sweep((1, 1), 1, 0)

    def test_the_weights_are_copied(self):
        weights = [1, 0, 1]
        sweep = Sweep(weights, 1)
        weights[0] = 0
        self.assertEqual(sweep.weights, (1, 0, 1))
        self.assertEqual(sweep((1, 5, 5)), (1, 1, 5))

    def test_no_sweep_ahead_of_too_large(self):
        far = {"weights": (1, 0, 0, 0, 0), "rank": 1, "own": 4, "ends": "held", "way": "on"}
        with self.assertRaises(TooLarge):
            made_with(far)
        for part, value in (("weights", (4, 0, 0, 0, 0)), ("rank", 2), ("own", 5), ("ends", "on"), ("way", "far")):
            self.refused(part, {**far, part: value})


class Attributes(unittest.TestCase):
    def test_values(self):
        sweep = Sweep([0, 2, 1], 2, own=0, ends="cut", way="back")
        self.assertEqual(vars(sweep), {
            "weights": (0, 2, 1), "rank": 2, "own": 0, "ends": "cut", "way": "back", "kind": "sweep", "parts": (),
            "times": 1, "size": 1, "depth": 1, "reach": (0, 2), "written": 2, "direction": "back"})
        self.assertIs(type(sweep.weights), tuple)
        self.assertIs(type(sweep.reach), tuple)

    def test_reach(self):
        for weights, own, reach in (((1,), 0, (0, 0)), ((1, 1, 1), 1, (1, 1)), ((1, 0, 0), 2, (2, 0)),
                                    ((0, 0, 1), 0, (0, 2)), ((0, 1, 0), 0, (0, 1)), ((0, 1, 0), 2, (1, 0)),
                                    ((0, 1, 0), 1, (0, 0)), ((1, 0, 0, 0, 0, 0, 0), 6, (6, 0)),
                                    ((0, 0, 0, 0, 0, 0, 1), 0, (0, 6)), ((1, 0, 0, 0, 0, 0, 3), 2, (2, 4)),
                                    ((0, 0, 1, 2), 0, (0, 3)), ((2, 1, 0, 0), 3, (3, 0))):
            for ends in ("held", "cut"):
                self.assertEqual(Sweep(weights, 1, own=own, ends=ends).reach, reach)

    def test_written(self):
        for way, written in (("all", 0), ("on", 2), ("back", 3)):
            sweep = Sweep((1, 0, 0, 0, 0, 1), 1, own=2, way=way)
            self.assertEqual((sweep.written, sweep.direction, sweep.way), (written, way, way))

    def test_too_large(self):
        for weights, own, way in (((1, 0, 0, 0, 0), 4, "on"), ((0, 0, 0, 0, 1), 0, "back"),
                                  ((1, 0, 0, 0, 0, 0, 0), 6, "on"), ((1, 1, 1, 1, 1, 1, 1), 4, "on"),
                                  ((1, 1, 1, 1, 1, 1, 1), 2, "back")):
            with self.assertRaises(TooLarge) as caught:
                Sweep(weights, 1, own=own, way=way)
            self.assertEqual(caught.exception.part, "written")
        for weights, own, way in (((0, 1, 0, 0, 0), 4, "on"), ((0, 0, 0, 1, 0), 0, "back"), ((1,) * 7, 3, "on"),
                                  ((1,) * 7, 3, "back"), ((1,) * 7, 0, "on"), ((1,) * 7, 6, "back"),
                                  ((1,) * 7, 4, "all")):
            Sweep(weights, 1, own=own, way=way)

    def test_a_sweep_is_a_chain(self):
        sweep = Sweep((1, 1), 1, own=0)
        self.assertIsInstance(sweep, Chain)
        self.assertEqual(sweep.sweeps(), [sweep])
        row = (5, 1, 4, 0, 2)
        self.assertEqual((~sweep)(row), (5, 4, 4, 2, 2))
        self.assertEqual(sweep.mirrored()(row), (5, 1, 1, 0, 0))
        self.assertEqual((sweep ** 2)(row), (1, 0, 0, 0, 2))
        self.assertEqual(sweep.repeated(0)(row), row)
        self.assertEqual((sweep >> ~sweep)(row), (1, 1, 0, 2, 2))
        self.assertEqual((sweep | sweep.mirrored())(row), (5, 1, 1, 0, 2))
        self.assertEqual((sweep & sweep.mirrored())(row), (1, 1, 0, 0, 0))

    def test_own_methods(self):
        for name in ("__init__", "__eq__"):
            self.assertIn(name, vars(Sweep))


class Equality(unittest.TestCase):
    base = {"weights": (1, 1, 1), "rank": 2, "own": 1, "ends": "held", "way": "all"}

    def test_equal_arguments(self):
        for weights in ((1, 1, 1), [1, 1, 1]):
            self.assertIs(Sweep(weights, 2) == made_with(self.base), True)
            self.assertIs(Sweep(weights, 2) != made_with(self.base), False)

    def test_each_argument_counts(self):
        sweep = made_with(self.base)
        for part, value in (("weights", (1, 2, 1)), ("weights", (1, 1, 1, 0)), ("rank", 1), ("own", 0),
                            ("ends", "cut"), ("way", "on"), ("way", "back")):
            other = made_with({**self.base, part: value})
            self.assertIs(sweep == other, False)
            self.assertIs(other == sweep, False)
            self.assertIs(sweep != other, True)
            self.assertIs((sweep ** 2) == (other ** 2), False)

    def test_other_values(self):
        sweep = Sweep((1,), 1)
        for value in (*[kind for kind in KINDS if not isinstance(kind, Chain)], (1,), "sweep", vars(sweep),
                      sweep ** 1, ~sweep, sweep >> sweep, sweep.mirrored()):
            self.assertIs(sweep == value, False)
            self.assertIs(value == sweep, False)
            self.assertIs(sweep != value, True)


if __name__ == "__main__":
    unittest.main()
