"""Point [12]: the cheapest chain that is alike to a chain, and its reasons; [1] for it."""
import itertools
import unittest

from asked import (KEEP, LEAST, MEDIAN, MOST, NO_CHAINS, WIDE, WIDE_ALL, WIDE_BACK, WIDE_ON, Clock, together)
from by_words import some_sweeps
from cases import Case
from ranksweeps.cheapest import cheapest, check_cheapest, ruled_out
from ranksweeps.decided import parting, relation
from ranksweeps.errors import NoAnswer, NoChain, NoNumber, TooLarge
from ranksweeps.sweeps import Sweep
from values import KINDS, NO_NUMBERS

ONE = Sweep((1, 0), 1, own=1)
TWO = Sweep((1, 0, 0), 1, own=2)
BACK_ONE = Sweep((0, 1), 1, own=0)
ON = Sweep((1, 1), 2, own=1, way="on")
BACK = Sweep((1, 1), 2, own=0, way="back")
FAR = Sweep((1, 0, 0, 0), 1, own=3)
NO_ROWS = (None, 5, "0", (), [], (2,), (0, -1), (0, True), [0, 1.0], [0] * 201, {0: 1}, (1, None), MEDIAN)


def in_order(p, sweeps, costs=None, most=3):
    """All (cost, indexes, chain) that are not left out, in their order."""
    costs = costs or [1] * len(sweeps)
    found = []
    for length in range(most + 1):
        for indexes in itertools.product(range(len(sweeps)), repeat=length):
            try:
                chain = Sweep((1,), 1) if length == 0 else sweeps[indexes[0]]
                for index in indexes[1:]:
                    chain = chain >> sweeps[index]
            except TooLarge:
                continue
            if together(p, chain):
                found.append((sum(costs[index] for index in indexes), indexes, chain))
    return sorted(found, key=lambda item: (item[0], len(item[1]), item[1]))


class Answers(Case):
    def test_the_examples_of_the_document(self):
        one = Sweep((1, 0), 1, own=1)
        two = Sweep((1, 0, 0), 1, own=2)
        self.assertEqual([cheapest(one ** 2, [one, two]), cheapest(one ** 2, [one, two], costs=[1, 3])],
                         [(1, (1,)), (2, (0, 0))])
        self.assertEqual(ruled_out(one ** 2, [one, two], costs=[1, 3]), [((), (0, 1)), ((0,), (0, 1, 0))])

    def compare(self, p, sweeps, costs=None, most=3):
        """Against all rows of indexes, one by one; then the answer and the reasons are checked."""
        answer, reasons = None, []
        for cost, indexes, chain in in_order(p, sweeps, costs, most):
            if relation(p, chain) == "alike":
                answer = (cost, indexes)
                break
            reasons.append((indexes, parting(p, chain)[0]))
        self.assertEqual(cheapest(p, sweeps, costs=costs, most=most), answer)
        found = ruled_out(p, sweeps, costs=costs, most=most)
        self.assertEqual(found, reasons)
        self.assertIsNone(check_cheapest(p, sweeps, answer, reasons, costs=costs, most=most))
        return answer

    def test_word_by_word(self):
        found = set()
        some = some_sweeps(40, 3, ("all", "on"))
        for number, sweep in enumerate(some[:24]):
            sweeps = [sweep, *some[24 + number % 8:25 + number % 8 + number % 3], KEEP][:4]
            for p in (sweep, sweep ** 1, KEEP, some[number + 1], sweeps[1]):
                for costs, most in ((None, 2), (None, 1), ([2, 1, 3, 5][:len(sweeps)], 2), (None, 0)):
                    found.add(self.compare(p, sweeps, costs, most) is None)
        self.assertEqual(found, {True, False})

    def test_costs(self):
        p = ONE ** 3
        for costs, answer in ((None, (2, (0, 1))), ([1, 1], (2, (0, 1))), ((1, 1), (2, (0, 1))),
                              ([1, 2], (3, (0, 1))), ([1, 3], (3, (0, 0, 0))), ([0, 0], (0, (0, 1))),
                              ([0, 1], (0, (0, 0, 0))), ([1, 0], (1, (0, 1))), ([5, 5], (10, (0, 1))),
                              ([10 ** 9, 10 ** 9], (2 * 10 ** 9, (0, 1))), ([1, 10 ** 9], (3, (0, 0, 0)))):
            self.assertEqual(self.compare(p, [ONE, TWO], costs), answer)

    def test_equal_costs_by_length_and_then_as_tuples(self):
        self.assertEqual(self.compare(KEEP, [KEEP, KEEP], [0, 0]), (0, ()))
        self.assertEqual(self.compare(ONE, [ONE, ONE, KEEP], [0, 0, 0]), (0, (0,)))
        self.assertEqual(self.compare(ONE, [KEEP, ONE], [0, 0]), (0, (1,)))
        self.assertEqual(self.compare(ONE ** 2, [KEEP, ONE], [0, 0]), (0, (1, 1)))
        self.assertEqual(self.compare(ONE ** 3, [TWO, ONE, ONE], [0, 0, 0]), (0, (0, 1)))
        self.assertEqual([indexes for indexes, _ in ruled_out(FAR, [ONE, TWO], costs=[2, 3], most=2)],
                         [(), (0,), (1,), (0, 0)])

    def test_most(self):
        for most, answer in ((0, None), (1, None), (2, None), (3, (3, (0, 0, 0)))):
            self.assertEqual(self.compare(ONE ** 3, [ONE], None, most), answer)
        self.assertEqual(cheapest(ONE ** 3, [ONE]), (3, (0, 0, 0)))
        self.assertEqual(self.compare(MEDIAN ** 0, [ONE], None, 0), (0, ()))
        self.assertEqual(len(ruled_out(MEDIAN, [ONE, TWO, KEEP, MOST], most=1)), 5)

    def test_one_to_four_sweeps_and_equal_ones(self):
        for sweeps in ([MOST], [LEAST, MOST], [LEAST, MOST, MEDIAN], [LEAST, MOST, MEDIAN, KEEP], [MOST] * 4,
                       (LEAST, MOST, LEAST, MOST)):
            for p in (MOST, MOST >> LEAST, LEAST >> MOST, MEDIAN):
                self.compare(p, sweeps)

    def test_no_chain_is_alike(self):
        self.assertIsNone(self.compare(MEDIAN, [LEAST, MOST]))
        self.assertEqual(len(ruled_out(MEDIAN, [LEAST, MOST])), 15)

    def test_left_out(self):
        # Two of these read 8 cells, so their chain can't be made.
        far = Sweep((1, 0, 0, 0, 0), 1, own=4)
        self.assertIsNone(self.compare(KEEP >> ONE, [far]))
        self.assertEqual([indexes for indexes, _ in ruled_out(ONE, [far])], [(), (0,)])
        # BACK can't stand beside ON, neither in a chain nor as p.
        self.assertEqual(self.compare(ON, [BACK, ON, KEEP]), (1, (1,)))
        self.assertEqual([indexes for indexes, _ in ruled_out(ON, [BACK, KEEP], most=2)], [(), (1,), (1, 1)])
        self.assertEqual([indexes for indexes, _ in ruled_out(MEDIAN, [BACK, ON], most=2)],
                         [(), (0,), (1,), (0, 0), (1, 1)])
        # p reads 4 cells behind, so only two cells before.
        p = Sweep((0, 0, 0, 0, 1), 1, own=0)
        self.assertEqual([indexes for indexes, _ in ruled_out(p, [ONE, KEEP], most=3)
                          if indexes.count(0) > 2], [])
        self.compare(p, [ONE, BACK_ONE])
        self.assertEqual(self.compare(BACK_ONE ** 3, [ONE, BACK_ONE]), (3, (1, 1, 1)))
        # It writes 2 cells in place, so one more cell may be.
        deep = Sweep((1, 1, 1), 2, own=2, way="on")
        self.assertEqual([indexes for indexes, _ in ruled_out(deep, [ON, KEEP], most=2)],
                         [(), (0,), (1,), (0, 1), (1, 0), (1, 1)])

    def test_in_place(self):
        for p in (ON, ON ** 2, ON >> KEEP, ~ON):
            self.compare(p, [ON, KEEP, Sweep((1, 1), 1, own=1, way="on")])
        self.compare(BACK >> MOST, [BACK, MOST, BACK_ONE])

    def test_the_results_are_new_and_of_these_kinds(self):
        first = ruled_out(ONE ** 2, [ONE])
        self.assertEqual([type(first), type(first[0]), type(first[0][0]), type(first[0][1])],
                         [list, tuple, tuple, tuple])
        answer = cheapest(ONE ** 2, [ONE])
        self.assertEqual([type(answer), type(answer[0]), type(answer[1])], [tuple, int, tuple])
        first.clear()
        self.assertEqual(len(ruled_out(ONE ** 2, [ONE])), 2)

    def test_great_questions(self):
        sweeps = [Sweep((1, 2, 1), 2), Sweep((1, 1, 1), 2, ends="cut"), Sweep((2, 1, 2), 3), Sweep((1, 3, 2), 3)]
        on = [Sweep((1, 2, 1), 2, way="on"), Sweep((1, 1, 1), 2, ends="cut", way="on"), *sweeps[:2]]
        for p, some in ((WIDE_ALL, sweeps), (WIDE_ALL, on), (WIDE, [KEEP, BACK_ONE, KEEP]),
                        (WIDE_ON, on), (WIDE & WIDE_BACK, [Sweep((1,), 1, way="back"), KEEP, BACK_ONE, KEEP])):
            with Clock(self):
                answer = cheapest(p, some)
            with Clock(self):
                reasons = ruled_out(p, some)
            with Clock(self):
                check_cheapest(p, some, answer, reasons)


class Check(Case):
    """ONE ** 2 of ONE and TWO with the costs 1 and 3: the answer is (2, (0, 0)), two reasons are needed."""

    p = ONE ** 2
    sweeps = [ONE, TWO]
    reasons = (((), (0, 1)), ((0,), (0, 1, 0)))

    def check(self, answer, reasons, **more):
        return check_cheapest(self.p, self.sweeps, answer, reasons, **{"costs": [1, 3], **more})

    def wrong(self, part, index, answer, reasons, **more):
        self.refused(NoAnswer(part, index), self.check, answer, reasons, **more)

    def test_right_ones(self):
        for answer in ((2, (0, 0)), [2, [0, 0]], (2, [0, 0]), [2, (0, 0)]):
            for reasons in (self.reasons, list(self.reasons), [[[], [0, 1]], [[0], [0, 1, 0]]],
                            [((), [0, 1]), [(0,), (0, 1, 0)]]):
                self.assertIsNone(self.check(answer, reasons))

    def test_other_rows_that_part(self):
        for first in ((0, 1), (1, 0), (0, 1, 1), (1,) * 100 + (0,) * 100):
            for second in ((0, 1, 0), (1, 0, 1, 1), [0, 1] + [0] * 198):
                self.assertIsNone(self.check((2, (0, 0)), [((), first), ((0,), second)]))

    def test_answers_of_another_kind(self):
        for answer in (*[kind for kind in KINDS if kind is not None], (2,), (2, (0, 0), 3), (2, 0), ("2", (0, 0)),
                       (True, (0, 0)), (2.0, (0, 0)), (None, (0, 0)), (2, None), (2, "00"), (2, {0: 0}),
                       (2, (False, False)), (2, (0, 0.0)), (2, (0, "0")), ((0, 0), 2), (2, (0, None))):
            self.wrong("answer", -1, answer, None)
            self.wrong("answer", -1, answer, self.reasons)

    def test_no_row_of_indexes(self):
        for indexes in ((2,), (-1,), (0, 2), (0, 0, 0, 0), (10 ** 30,)):
            for cost in (1, 2, 3, 4):
                self.wrong("answer", -1, (cost, indexes), self.reasons)
        self.wrong("answer", -1, (2, (0, 0)), self.reasons, most=1)
        self.wrong("answer", -1, (1, (0,)), self.reasons, most=0)
        self.assertIsNone(self.check((2, (0, 0)), self.reasons, most=2))

    def test_a_row_of_indexes_that_is_left_out(self):
        far = Sweep((1, 0, 0, 0, 0), 1, own=4)
        self.refused(NoAnswer("answer", -1), check_cheapest, far, [far], (2, (0, 0)), [])
        self.refused(NoAnswer("answer", -1), check_cheapest, ON, [BACK, ON], (1, (0,)), [])
        self.refused(NoAnswer("answer", -1), check_cheapest, MEDIAN, [BACK, ON], (2, (0, 1)), [])

    def test_a_wrong_cost(self):
        for cost in (0, 1, 3, -2, 10 ** 40):
            self.wrong("answer", -1, (cost, (0, 0)), self.reasons)
        self.wrong("answer", -1, (1, (1,)), self.reasons)
        self.wrong("answer", 0, (1, (0,)), [self.reasons[0]])

    def test_an_answer_that_is_not_alike(self):
        for answer in ((0, ()), (1, (0,)), (3, (0, 0, 0)), (4, (0, 1)), (9, (1, 1, 1))):
            self.wrong("answer", 0, answer, None)
            self.wrong("answer", 0, answer, self.reasons)

    def test_alike_but_not_the_first(self):
        # No row parts p and the chain of (0, 0), which comes first.
        for row in ((0, 1), (0, 1, 0), (0, 1, 0, 1, 1)):
            self.wrong("reasons", 2, (3, (1,)), [*self.reasons, ((0, 0), row)])
        self.wrong("reasons", 2, (3, (1,)), self.reasons)
        self.wrong("reasons", 1, (3, (1,)), self.reasons[:1])
        self.wrong("reasons", 2, None, [*self.reasons, ((0, 0), (0, 1))])

    def test_reasons_of_another_kind(self):
        for reasons in (None, 5, "", {}, True, range(2), MEDIAN, {0, 1}):
            self.wrong("reasons", -1, (2, (0, 0)), reasons)
            self.wrong("reasons", -1, None, reasons)

    def test_too_few_and_too_many(self):
        self.wrong("reasons", 0, (2, (0, 0)), [])
        self.wrong("reasons", 1, (2, (0, 0)), self.reasons[:1])
        self.wrong("reasons", 2, (2, (0, 0)), (*self.reasons, ((0, 0), (0, 1))))
        self.wrong("reasons", 2, (2, (0, 0)), (*self.reasons, None, None))
        self.refused(NoAnswer("reasons", 0), check_cheapest, KEEP, [ONE], (0, ()), [((), (0, 1))])
        self.assertIsNone(check_cheapest(KEEP, [ONE], (0, ()), []))

    def test_wrong_reasons(self):
        for number in (0, 1):
            for wrong in (None, 5, (), ((0,),), ((0,), (0, 1, 0), 1), "ab", (None, (0, 1, 0)), ({}, (0, 1, 0)),
                          ((1,), (0, 1, 0)), ((0, 0), (0, 1, 0)), ((False,), (0, 1, 0)), ((0.0,), (0, 1, 0))):
                reasons = list(self.reasons)
                reasons[number] = wrong
                self.wrong("reasons", number, (2, (0, 0)), reasons)
            for row in NO_ROWS:
                reasons = list(self.reasons)
                reasons[number] = (reasons[number][0], row)
                self.wrong("reasons", number, (2, (0, 0)), reasons)
        self.wrong("reasons", 0, (2, (0, 0)), self.reasons[::-1])
        for row in ((0,), (1,), (0, 0), (1, 1, 1), (0,) * 200):
            self.wrong("reasons", 0, (2, (0, 0)), [((), row), self.reasons[1]])
            self.wrong("reasons", 1, (2, (0, 0)), [self.reasons[0], ((0,), row)])
        # Two wrong ones: the first is told; behind a wrong one it does not matter what is missing.
        self.wrong("reasons", 0, (2, (0, 0)), [None, None])
        self.wrong("reasons", 0, (2, (0, 0)), [None])
        self.wrong("reasons", 1, (2, (0, 0)), [self.reasons[0], None, None])

    def test_no_answer(self):
        reasons = ruled_out(MEDIAN, [ONE, MOST])
        self.assertIsNone(check_cheapest(MEDIAN, [ONE, MOST], None, reasons))
        self.assertIsNone(check_cheapest(MEDIAN, (ONE, MOST), None, tuple(reasons)))
        for number in range(len(reasons)):
            self.refused(NoAnswer("reasons", number), check_cheapest, MEDIAN, [ONE, MOST], None, reasons[:number])
            self.refused(NoAnswer("reasons", number), check_cheapest, MEDIAN, [ONE, MOST], None,
                         reasons[:number] + reasons[number + 1:] + [None])
        self.refused(NoAnswer("reasons", len(reasons)), check_cheapest, MEDIAN, [ONE, MOST], None,
                     [*reasons, reasons[-1]])

    def test_the_answer_comes_before_the_reasons(self):
        self.wrong("answer", -1, 5, 5)
        self.wrong("answer", 0, (1, (0,)), 5)
        self.wrong("reasons", -1, (2, (0, 0)), 5)


class Errors(Case):
    def calls(self):
        yield cheapest, ()
        yield ruled_out, ()
        yield check_cheapest, (5, 5)

    def test_in_their_order(self):
        for call, more in self.calls():
            for value in (*NO_CHAINS, Sweep, [KEEP]):
                self.refused(NoChain("p"), call, value, [], *more, costs=5, most=-1)
            for value in (None, 5, "ab", {}, KEEP, (), [], [KEEP] * 5, (None,) * 5):
                self.refused(NoAnswer("sweeps", -1), call, KEEP, value, *more, costs=5, most=-1)
            for value in (None, 5, Sweep, KEEP >> KEEP, KEEP ** 1, ~KEEP, [KEEP]):
                self.refused(NoAnswer("sweeps", 0), call, KEEP, [value, value], *more, costs=5, most=-1)
                self.refused(NoAnswer("sweeps", 2), call, KEEP, (KEEP, ONE, value, KEEP), *more, costs=[], most=-1)
            for value in (5, True, "1", {}, (), [], [1], [1, 2, 3], (None,), {0: 1, 1: 1}):
                self.refused(NoAnswer("costs", -1), call, KEEP, [KEEP, ONE], *more, costs=value, most=-1)
            for value in (-1, 10 ** 9 + 1, 10 ** 40, *NO_NUMBERS, [1]):
                self.refused(NoAnswer("costs", 0), call, KEEP, [KEEP, ONE], *more, costs=[value, value], most=-1)
                self.refused(NoAnswer("costs", 1), call, KEEP, [KEEP, ONE], *more, costs=(0, value), most=-1)
            for value in (-1, 4, 10 ** 30, *NO_NUMBERS, [1]):
                self.refused(NoNumber("most"), call, KEEP, [KEEP], *more, most=value)
                self.refused(NoNumber("most"), call, KEEP, [KEEP], *more, costs=[5], most=value)

    def test_by_name_and_arguments_stay_as_they_were(self):
        sweeps, costs = [ONE, TWO], [1, 3]
        self.assertEqual(cheapest(most=3, costs=costs, sweeps=sweeps, p=ONE ** 2), (2, (0, 0)))
        reasons = ruled_out(most=3, costs=costs, sweeps=sweeps, p=ONE ** 2)
        check_cheapest(most=3, costs=costs, reasons=reasons, answer=[2, [0, 0]], sweeps=sweeps, p=ONE ** 2)
        self.assertEqual((sweeps, costs), ([ONE, TWO], [1, 3]))
        self.assertEqual(len(reasons), 2)
        for call, more in self.calls():
            with self.assertRaises(TypeError):
                call(KEEP, [KEEP], *more, [1], 3)


if __name__ == "__main__":
    unittest.main()
