"""The searches behind point [6]: least machines of any size, with any number of states that is allowed."""
import unittest

from ranksweeps.least import ALONE, TOGETHER, joined, least_machine
from ranksweeps.searches import explored
from row_sets import least_size, numbering, some_machines


class LeastMachine(unittest.TestCase):
    def test_most(self):
        for steps, last in some_machines(200, 1, 9):
            size = least_size(steps, last)
            found = least_machine(steps, last, size)
            self.assertEqual(len(found[0]), size)
            self.assertEqual(found, least_machine(steps, last, 500))
            self.assertEqual(numbering(found[0]), list(range(size)))
            if size > 1:
                self.assertIsNone(least_machine(steps, last, size - 1))

    def test_more_states_than_a_set_may_have(self):
        for count in (501, 5000):
            steps = [((k + 1) % count, (k + 2) % count) for k in range(count)]
            self.assertEqual(least_machine(steps, [False] * count, 1), (((0, 0),), (False,)))
            self.assertEqual(least_machine(steps, [True] * count, 2), (((1, 1), (1, 1)), (False, True)))
            self.assertIsNone(least_machine(steps, [k == 1 for k in range(count)], 500))

        steps = [((k + 1) % 501, (k + 2) % 501) for k in range(501)]
        self.assertEqual(len(least_machine(steps, [k == 1 for k in range(501)], 501)[0]), 501)

    def test_arguments_stay_as_they_were(self):
        steps, last = [(0, 1), (2, 1), (0, 0)], [True, False, True]
        least_machine(steps, last, 500)
        self.assertEqual((steps, last), ([(0, 1), (2, 1), (0, 0)], [True, False, True]))


class Joined(unittest.TestCase):
    two, three = ((1, 0), (0, 1)), ((1, 1), (2, 2), (0, 0))

    def test_alone_and_together(self):
        self.assertEqual(joined([self.three], ALONE, 3), ([(0,), (1,), (2,)], [(1, 1), (2, 2), (0, 0)]))
        keys, steps = joined([self.two, self.three], TOGETHER, 6)
        self.assertEqual(keys, [(0, 0), (1, 1), (0, 1), (0, 2), (1, 2), (1, 0)])
        self.assertEqual(steps, [(1, 2), (3, 4), (4, 3), (5, 0), (0, 5), (2, 1)])

    def test_most(self):
        self.assertIsNone(joined([self.two, self.three], TOGETHER, 5))
        self.assertIsNone(joined([self.three], ALONE, 1))


class Explored(unittest.TestCase):
    def test_keys_in_the_order_in_which_they_are_met(self):
        def follow(number):
            return [(3 * number + 1) % 7, number // 2, 0]

        self.assertEqual(explored(4, follow, 7),
                         ([4, 6, 2, 0, 5, 3, 1], [(1, 2, 3), (4, 5, 3), (3, 6, 3), (6, 3, 3), (2, 2, 3), (5, 6, 3),
                                                  (0, 3, 3)]))

    def test_most(self):
        self.assertEqual(explored(0, lambda number: [min(number + 1, 9)], 10)[0], list(range(10)))
        self.assertIsNone(explored(0, lambda number: [min(number + 1, 9)], 9))


if __name__ == "__main__":
    unittest.main()
