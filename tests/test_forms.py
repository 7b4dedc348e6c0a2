"""Point [8]: forms of chains; [1] for it."""
import itertools
import unittest

from asked import KEEP, LEAST, MEDIAN, MOST, MOVE, NO_CHAINS, WIDE, WIDE_ALL, Clock, some_pairs
from by_words import chained, some_chains, some_rows, some_sweeps
from cases import Case
from ranksweeps.decided import alike_forms, form, relation
from ranksweeps.errors import NoChain, NoForm, NoNumber, TooLarge
from ranksweeps.sweeps import Sweep
from values import NO_NUMBERS

GREAT = 10 ** 30
ON = Sweep((1, 1), 2, own=1, way="on")
BACK = Sweep((1, 1), 2, own=0, way="back")


def by_hand(chain, ahead, behind):
    """All least sets of offsets for a cell with exactly so many cells before and behind it."""
    offsets = range(-ahead, behind + 1)
    sets = [some for size in range(ahead + behind + 2) for some in itertools.combinations(offsets, size)]
    ones = [some for some in sets if chained(chain, [1 if k in some else 0 for k in offsets])[ahead] == 1]
    return [some for some in ones if not any(set(other) < set(some) for other in ones)]


class Forms(Case):
    def test_the_example_of_the_document(self):
        self.assertEqual([form(Sweep((1, 1, 1), 2), 5, 5), form(Sweep((1, 1, 1), 2), 0, 5)],
                         [[(-1, 0), (-1, 1), (0, 1)], [(0,)]])

    def test_by_hand(self):
        self.assertEqual(form(MOST, 1, 1), [(-1,), (0,), (1,)])
        self.assertEqual(form(LEAST, 1, 1), [(-1, 0, 1)])
        self.assertEqual(form(MOVE, 3, 3), [(-1,)])
        self.assertEqual(form(MOVE, 0, 3), [(0,)])
        self.assertEqual(form(KEEP, GREAT, GREAT), [(0,)])
        self.assertEqual(form(MEDIAN ** 0, 5, 5), [(0,)])
        self.assertEqual(form(Sweep((1, 0, 2), 2, ends="cut"), 1, 1), [(1,)])
        self.assertEqual(form(Sweep((1, 0, 2), 2, ends="cut"), 1, 0), [(-1,)])
        # By the number of offsets, and by tuples where equally many stand in both.
        self.assertEqual(form(Sweep((1, 1, 2, 1, 1), 3), 2, 2),
                         [(-2, -1, 0), (-2, 0, 1), (-2, 0, 2), (-1, 0, 1), (-1, 0, 2), (0, 1, 2), (-2, -1, 1, 2)])

    def test_word_by_word_at_the_ends_and_far_from_them(self):
        for chain in [*some_chains(60, 0, ("all",)), *some_sweeps(60, 1, ("all",)), WIDE, WIDE_ALL]:
            left, right = chain.reach
            for ahead in range(left + 1):
                for behind in range(right + 1):
                    with self.subTest(chain=chain, ahead=ahead, behind=behind):
                        found = form(chain, ahead, behind)
                        self.assertEqual(found, by_hand(chain, ahead, behind))
                        self.assertEqual(found, sorted(found, key=lambda some: (len(some), some)))
                        self.assertTrue(found and () not in found)

    def test_beyond_the_reach(self):
        for chain in [*some_chains(30, 2, ("all",)), *some_sweeps(30, 3, ("all",))]:
            left, right = chain.reach
            for more in (0, 1, 2, 1000, GREAT):
                self.assertEqual(form(chain, left + more, right), form(chain, left, right))
                self.assertEqual(form(chain, left, right + more), form(chain, left, right))
                self.assertEqual(form(chain, left + more, 0), form(chain, left, 0))
                self.assertEqual(form(chain, 0, right + more), form(chain, 0, right))
            if left + right < 4:
                self.assertEqual(form(chain, left + 1, right + 2), by_hand(chain, left + 1, right + 2))

    def test_rows_of_integers(self):
        for chain in [*some_chains(40, 4, ("all",)), *some_sweeps(40, 5, ("all",))]:
            for row in some_rows(4, 6, 12, 7):
                made = tuple(max(min(row[k + offset] for offset in some)
                                 for some in form(chain, k, len(row) - 1 - k)) for k in range(len(row)))
                self.assertEqual(made, chain(row))

    def test_kinds_and_a_new_list_each_time(self):
        first = form(MEDIAN, 5, 5)
        self.assertEqual([type(first), *map(type, first)], [list, tuple, tuple, tuple])
        first.append((0,))
        first[0] = ()
        self.assertEqual(form(MEDIAN, 5, 5), [(-1, 0), (-1, 1), (0, 1)])

    def test_errors_in_their_order(self):
        for value in (*NO_CHAINS, Sweep, [KEEP]):
            self.refused(NoChain("p"), form, value, -1, -1)
        for wrong in (-1, -GREAT, *NO_NUMBERS):
            self.refused(NoNumber("ahead"), form, MEDIAN, wrong, 0)
            self.refused(NoNumber("ahead"), form, ON, wrong, wrong)
            self.refused(NoNumber("behind"), form, MEDIAN, 0, wrong)
            self.refused(NoNumber("behind"), form, BACK, GREAT, wrong)
        for chain in (ON, BACK, ON ** 1, ~BACK, KEEP >> ON, MEDIAN | BACK):
            self.refused(NoForm(), form, chain, 0, 0)
        self.assertEqual(form(ON ** 0, 1, 1), [(0,)])

    def test_by_name(self):
        self.assertEqual(form(behind=1, ahead=0, p=MEDIAN), [(0,)])
        self.assertIs(alike_forms(q=KEEP, p=MEDIAN), False)


class AlikeForms(Case):
    def test_beside_relation(self):
        answers = set()
        pairs = [*some_pairs(150, 0), *some_pairs(150, 3), (MEDIAN, ~MEDIAN), (MEDIAN, MEDIAN.mirrored()),
                 (MOST, ~LEAST), (MOVE ** 2, MOVE >> MOVE), (MEDIAN, Sweep((1, 1, 1), 2, ends="cut")),
                 (MOVE, Sweep((1, 0), 1, own=1, ends="cut")), (KEEP, MEDIAN ** 0)]
        for p, q in pairs:
            answer = alike_forms(p, q)
            answers.add(answer)
            self.assertIs(answer, relation(p, q) == "alike")
            self.assertIs(alike_forms(q, p), answer)
            self.assertIs(alike_forms(p, p), True)
        self.assertEqual(answers, {True, False})

    def test_unlike_only_near_an_end(self):
        held, cut = Sweep((1, 1, 1), 2), Sweep((1, 1, 1), 2, ends="cut")
        self.assertEqual(form(held, 1, 1), form(cut, 1, 1))
        self.assertIs(alike_forms(held, cut), False)

    def test_errors_in_their_order(self):
        far = Sweep((0,) * 6 + (1,), 1, own=0)
        for value in NO_CHAINS:
            self.refused(NoChain("p"), alike_forms, value, value)
            self.refused(NoChain("q"), alike_forms, ON, value)
        self.refused(TooLarge("reach"), alike_forms, far, MOVE)
        self.refused(TooLarge("reach"), alike_forms, far, ON)
        deep = Sweep((1, 1, 1), 1, own=2, way="on")
        self.refused(TooLarge("written"), alike_forms, deep, deep)
        self.refused(TooLarge("ways"), alike_forms, ON, BACK)
        for p, q in ((ON, KEEP), (KEEP, ON), (BACK, KEEP), (KEEP, BACK), (ON, ON), (BACK, BACK)):
            self.refused(NoForm(), alike_forms, p, q)

    def test_the_widest_chains(self):
        chains = (WIDE_ALL, WIDE_ALL | (MEDIAN >> MOST >> LEAST), MEDIAN ** 3, (MEDIAN >> ~MEDIAN >> MEDIAN) & MOVE,
                  Sweep((1, 1), 2, own=0) ** 3 >> Sweep((1, 1), 1, own=1) ** 3)
        for p in chains:
            for q in chains:
                with Clock(self):
                    answer = alike_forms(p, q)
                self.assertIs(answer, relation(p, q) == "alike")
        with Clock(self):
            self.assertEqual(len(form(WIDE, 0, 6)), len(by_hand(WIDE, 0, 6)))


if __name__ == "__main__":
    unittest.main()
