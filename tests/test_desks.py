"""Point [14]: the desk and its trials; [1] for it."""
import unittest

from asked import KEEP, LEAST, MEDIAN, MOST, MOVE, NO_CHAINS, WIDE, WIDE_ALL, Clock, some_pairs
from cases import Case
from ranksweeps.decided import relation
from ranksweeps.desks import Desk, Trial
from ranksweeps.errors import NoChain, NoName, TooLarge, TooMany
from ranksweeps.sweeps import Sweep
from values import KINDS

NAMES = "abcdefghijkl"
NO_NAMES = (*KINDS, "A", "aB", "a1", "a b", " a", "a ", "a\n", "a_b", "a-b", "\u00e4", "a\u00e9", "\u0430", "abcdefghijklm",
            "a" * 13, "a" * 1000, b"a", ("a",), ["a"], "\u00df", "\u01c6")
NO_NAMES = tuple(value for value in NO_NAMES if not isinstance(value, str) or value != "word")
FAR_LEFT = Sweep((1, 0, 0, 0), 1, own=3)
FAR_RIGHT = Sweep((0, 0, 0, 0, 1), 1, own=0)
ON = Sweep((1, 1, 1), 2, own=2, way="on")
BACK = Sweep((1, 1, 1), 2, own=0, way="back")


class Stop(Exception):
    """An error that is none of the program."""


def desk_of(**chains):
    desk = Desk()
    for name, chain in chains.items():
        desk[name] = chain
    return desk


def state(desk):
    return {name: desk[name] for name in desk.names()}


def history(desk):
    """All states that can be come to by undo and redo, in their order, and the place of the present one; as it was."""
    back = 0
    while desk.undo():
        back += 1
    states = [state(desk)]
    while desk.redo():
        states.append(state(desk))
    for _ in range(len(states) - 1 - back):
        desk.undo()
    return states, back


class DeskCase(Case):
    def put(self, desk, name, chain):
        desk[name] = chain

    def put_refused(self, error, desk, name, chain):
        self.refused(error, self.put, desk, name, chain)

    def unchanged(self, desk, call, error=None):
        """The call leaves the desk, its undo and its redo as they were."""
        before = history(desk)
        if error is None:
            call()
        else:
            self.refused(error, call)
        self.assertEqual(history(desk), before)


class Examples(DeskCase):
    def test_the_examples_of_the_document(self):
        self.refused(NoName("A"), lambda: Desk()["A"])
        desk = Desk()
        desk["a"] = Sweep((1, 1, 1), 2)
        desk["b"] = ~Sweep((1, 1, 1), 2)
        self.assertEqual([desk.names(), desk.alike(), desk.below()],
                         [["a", "b"], [["a", "b"]], [("a", "b"), ("b", "a")]])
        desk = Desk()
        desk["a"] = Sweep((1, 1, 1), 2)
        self.assertEqual([desk.undo(), len(desk), desk.redo(), desk.names()], [True, 0, True, ["a"]])
        desk = Desk()
        desk["a"] = Sweep((1,), 1)
        self.assertEqual([desk.attempt(lambda held: held.drop("a").rank), len(desk), desk.undo(), len(desk)],
                         [1, 0, True, 1])

    def test_the_step_of_the_document(self):
        def step(desk):
            desk["a"] = Sweep((1, 1, 1), 2)
            desk["A"] = Sweep((1,), 1)

        desk = desk_of(b=MOVE)
        self.unchanged(desk, lambda: desk.attempt(step), NoName("A"))
        self.assertEqual(state(desk), {"b": MOVE})


class Held(DeskCase):
    def test_empty(self):
        desk = Desk()
        self.assertEqual([len(desk), desk.names(), desk.alike(), desk.below()], [0, [], [], []])
        self.assertEqual([desk.undo(), desk.redo(), "a" in desk], [False, False, False])

    def test_names(self):
        for name in ("a", "z", "abcdefghijkl", "zzzzzzzzzzzz", "word", "mnopqr", "stuvwxyz"):
            desk = desk_of(**{name: MEDIAN})
            self.assertIs(desk[name], MEDIAN)
            self.assertIs(name in desk, True)
            self.assertEqual([len(desk), desk.names()], [1, [name]])
            self.assertIs(desk.drop(name), MEDIAN)
            self.assertEqual([len(desk), name in desk], [0, False])

    def test_no_names(self):
        desk = desk_of(a=MEDIAN)
        for name in NO_NAMES:
            self.assertIs(name in desk, False)
            self.put_refused(NoName(name), desk, name, KEEP)
            self.refused(NoName(name), lambda wrong: desk[wrong], name)
            self.refused(NoName(name), desk.drop, name)
            with self.assertRaises(NoName) as caught:
                desk[name] = KEEP
            self.assertIs(caught.exception.name, name)
        for name in ("b", "aa", "word"):
            self.assertIs(name in desk, False)
            self.refused(NoName(name), lambda wrong: desk[wrong], name)
            self.refused(NoName(name), desk.drop, name)
        self.assertEqual(state(desk), {"a": MEDIAN})

    def test_names_are_ascending_and_new(self):
        desk = desk_of(b=KEEP, ab=KEEP, z=MOVE, a=KEEP, ba=MOVE)
        self.assertEqual(desk.names(), ["a", "ab", "b", "ba", "z"])
        desk.names().clear()
        self.assertEqual(len(desk), 5)

    def test_assigned_again(self):
        desk = desk_of(a=KEEP, b=MOVE)
        desk["a"] = MEDIAN
        self.assertEqual([state(desk), len(desk)], [{"a": MEDIAN, "b": MOVE}, 2])

    def test_a_desk_is_not_iterated_over(self):
        with self.assertRaises(TypeError):
            iter(desk_of(a=KEEP))
        with self.assertRaises(TypeError):
            list(Desk())

    def test_errors_in_their_order(self):
        desk = desk_of(**{name: FAR_LEFT for name in NAMES})
        for chain in (*NO_CHAINS, Sweep, [KEEP]):
            self.put_refused(NoName("A"), desk, "A", chain)
            self.put_refused(NoChain("chain"), desk, "m", chain)
            self.put_refused(NoChain("chain"), desk, "a", chain)
        self.put_refused(TooMany(12), desk, "m", FAR_RIGHT)
        self.put_refused(TooMany(12), desk, "m", KEEP)
        self.put_refused(TooLarge("reach"), desk, "a", FAR_RIGHT)
        self.assertEqual(state(desk), {name: FAR_LEFT for name in NAMES})

    def test_a_known_name_while_the_desk_is_full(self):
        desk = desk_of(**{name: KEEP for name in NAMES})
        desk["c"] = MOVE
        self.assertEqual([len(desk), desk["c"]], [12, MOVE])
        desk.drop("d")
        desk["thirteenth"] = MEDIAN
        self.assertEqual([len(desk), desk["thirteenth"]], [12, MEDIAN])
        self.put_refused(TooMany(12), desk, "d", KEEP)

    def test_too_large_in_the_order_of_the_names(self):
        # Beside b it is the reach, beside c the ways, beside d what is written.
        some = {"b": FAR_LEFT, "c": Sweep((1,), 1, way="on"), "d": Sweep((1, 1, 1), 1, own=2, way="on")}
        wrong = FAR_RIGHT & Sweep((1, 1), 1, own=0, way="back")
        both = Sweep((1, 1), 1, own=1, way="on") & Sweep((1, 1, 1), 1, own=2, way="on")
        for order in ("bcd", "dcb", "cdb"):
            desk = desk_of(**{name: some[name] for name in order})
            self.put_refused(TooLarge("reach"), desk, "a", wrong)
            desk.drop("b")
            self.put_refused(TooLarge("ways"), desk, "a", wrong)
            self.put_refused(TooLarge("written"), desk, "a", both)
            desk.drop("d")
            desk["a"] = both
        desk = desk_of(b=Sweep((1,), 1, way="on"), a=FAR_LEFT)
        self.put_refused(TooLarge("reach"), desk, "c", FAR_RIGHT >> Sweep((1,), 1, way="back"))
        desk = desk_of(a=Sweep((1,), 1, way="on"), b=FAR_LEFT)
        self.put_refused(TooLarge("ways"), desk, "c", FAR_RIGHT >> Sweep((1,), 1, way="back"))

    def test_not_with_the_chain_that_is_replaced(self):
        desk = desk_of(a=FAR_LEFT, b=KEEP)
        desk["a"] = FAR_RIGHT
        self.put_refused(TooLarge("reach"), desk, "b", FAR_LEFT)
        desk["a"] = ON
        desk["a"] = BACK
        self.put_refused(TooLarge("written"), desk, "c", ON)
        self.put_refused(TooLarge("ways"), desk, "c", Sweep((1,), 1, way="on"))
        self.assertEqual(state(desk), {"a": BACK, "b": KEEP})


class Questions(DeskCase):
    def test_beside_relation(self):
        words = set()
        for seed in range(4):
            desk = Desk()
            for name, (p, q) in zip("dbcaegfjhi", some_pairs(10, seed)):
                for some, chain in ((name, p), (name * 2, q)):
                    try:
                        desk[some] = chain
                    except (TooLarge, TooMany):
                        pass
            names = desk.names()
            groups = desk.alike()
            self.assertEqual(sorted(sum(groups, [])), names)
            self.assertEqual([group[0] for group in groups], sorted(group[0] for group in groups))
            for group in groups:
                self.assertEqual(group, sorted(group))
            below = []
            for a in names:
                for b in names:
                    # A chain need not be one that can be asked together with itself.
                    word = "alike" if a == b else relation(desk[a], desk[b])
                    words.add(word)
                    self.assertIs(any(a in group and b in group for group in groups), word == "alike")
                    if a != b and word in ("alike", "below"):
                        below.append((a, b))
            self.assertEqual(desk.below(), below)
        self.assertEqual(words, {"alike", "above", "below", "apart"})

    def test_chains_that_can_not_be_asked_together_with_themselves(self):
        desk = desk_of(a=ON, b=KEEP)
        self.assertEqual([desk.alike(), desk.below()], [[["a"], ["b"]], []])

    def test_groups(self):
        desk = desk_of(f=MEDIAN, e=KEEP, d=~MEDIAN, c=KEEP ** 0, b=MEDIAN.mirrored(), a=MOST)
        self.assertEqual(desk.alike(), [["a"], ["b", "d", "f"], ["c", "e"]])
        self.assertEqual(desk_of(b=LEAST, a=MOST, c=KEEP).below(), [("b", "a"), ("b", "c"), ("c", "a")])
        self.assertEqual(desk_of(a=KEEP).alike(), [["a"]])
        self.assertEqual(desk_of(a=KEEP).below(), [])

    def test_the_lists_are_new(self):
        desk = desk_of(a=KEEP, b=KEEP)
        desk.alike()[0].clear()
        desk.below().clear()
        self.assertEqual([desk.alike(), desk.below()], [[["a", "b"]], [("a", "b"), ("b", "a")]])

    def test_a_full_desk_of_wide_chains(self):
        wide = Sweep((3, 1, 2, 2, 1, 3, 3), 6, own=3)
        chains = [WIDE_ALL, wide, WIDE_ALL & wide, WIDE_ALL | wide, ~WIDE_ALL, ~wide, WIDE_ALL.mirrored(), MEDIAN ** 3,
                  MEDIAN, KEEP, WIDE_ALL & Sweep((1, 2, 1), 2, way="on"), wide | Sweep((1, 2, 1), 3, way="on")]
        desk = desk_of(**dict(zip(NAMES, chains)))
        with Clock(self):
            groups = desk.alike()
        with Clock(self):
            desk.below()
        self.assertEqual(sum(len(group) for group in groups), 12)


class Changes(DeskCase):
    def test_undo_and_redo_to_their_ends(self):
        desk = Desk()
        states = [state(desk)]
        for name, chain in (("a", KEEP), ("b", MOVE), ("a", MEDIAN), ("c", KEEP)):
            desk[name] = chain
            states.append(state(desk))
        desk.drop("b")
        states.append(state(desk))
        for _ in range(2):
            for before in reversed(states[:-1]):
                self.assertIs(desk.undo(), True)
                self.assertEqual(state(desk), before)
            self.assertIs(desk.undo(), False)
            self.assertEqual(len(desk), 0)
            for after in states[1:]:
                self.assertIs(desk.redo(), True)
                self.assertEqual(state(desk), after)
            self.assertIs(desk.redo(), False)
            self.assertEqual(state(desk), states[-1])

    def test_a_new_change_leaves_nothing_to_redo(self):
        desk = desk_of(a=KEEP, b=MOVE, c=MEDIAN)
        desk.undo()
        desk.undo()
        desk["d"] = MOST
        self.assertEqual([desk.redo(), desk.names()], [False, ["a", "d"]])
        self.assertEqual([desk.undo(), desk.undo(), desk.undo(), len(desk)], [True, True, False, 0])
        desk = desk_of(a=KEEP, b=MOVE)
        desk.undo()
        desk.drop("a")
        self.assertEqual([desk.redo(), len(desk), desk.undo(), desk.names()], [False, 0, True, ["a"]])

    def test_the_same_chain_again_is_a_change(self):
        desk = desk_of(a=KEEP)
        desk["a"] = KEEP
        self.assertEqual([desk.undo(), desk.names(), desk.undo(), desk.names(), desk.undo()],
                         [True, ["a"], True, [], False])
        desk["a"] = KEEP
        desk["b"] = MOVE
        desk.undo()
        desk["a"] = KEEP
        self.assertIs(desk.redo(), False)

    def test_errors_leave_all_as_it_was(self):
        desk = desk_of(a=KEEP, b=FAR_LEFT, c=MOVE)
        desk.undo()
        for call, error in ((lambda: self.put(desk, "A", KEEP), NoName("A")),
                            (lambda: self.put(desk, "a", None), NoChain("chain")),
                            (lambda: self.put(desk, "c", FAR_RIGHT), TooLarge("reach")),
                            (lambda: desk.drop("c"), NoName("c")), (lambda: desk.drop(5), NoName(5)),
                            (lambda: desk["c"], NoName("c"))):
            self.unchanged(desk, call, error)
        for call in (desk.names, desk.alike, desk.below, lambda: len(desk), lambda: "a" in desk, lambda: desk["a"],
                     desk.trying):
            self.unchanged(desk, call)
        full = desk_of(**{name: KEEP for name in NAMES})
        self.unchanged(full, lambda: self.put(full, "m", KEEP), TooMany(12))
        self.assertEqual([desk.redo(), desk["c"]], [True, MOVE])


class Trials(DeskCase):
    def raising(self, desk, steps, error=Stop):
        """Do the steps in a trial that an error leaves."""
        with self.assertRaises(error):
            with desk.trying() as held:
                steps(held)
                raise error()

    def test_kept(self):
        desk = desk_of(a=KEEP)
        trial = desk.trying()
        self.assertIs(type(trial), Trial)
        self.assertIsNot(desk.trying(), trial)
        with trial as held:
            self.assertIs(held, desk)
            held["b"] = MOVE
            held["c"] = MEDIAN
            held.drop("a")
            self.assertEqual(desk.names(), ["b", "c"])
        self.assertEqual(history(desk), ([{}, {"a": KEEP}, {"b": MOVE, "c": MEDIAN}], 2))

    def test_left_by_an_error(self):
        desk = desk_of(a=KEEP, b=MOVE, c=MEDIAN)
        desk.undo()

        def steps(held):
            held["x"] = MOST
            held.drop("a")
            held["b"] = KEEP

        for error in (Stop, KeyError, ValueError, KeyboardInterrupt, GeneratorExit, StopIteration):
            self.unchanged(desk, lambda error=error: self.raising(desk, steps, error))
        self.unchanged(desk, lambda: self.raising(desk, lambda held: None))
        self.assertEqual(state(desk), {"a": KEEP, "b": MOVE})

    def test_nothing_was_changed(self):
        desk = desk_of(a=KEEP, b=MOVE)
        desk.undo()
        with desk.trying():
            pass
        self.assertEqual([desk.redo(), history(desk)], [False, ([{}, {"a": KEEP}, {"a": KEEP}], 2)])

    def test_errors_that_do_not_leave_the_block(self):
        desk = Desk()
        with desk.trying():
            desk["a"] = KEEP
            self.put_refused(NoName("A"), desk, "A", KEEP)
            self.refused(NoName("z"), desk.drop, "z")
        self.assertEqual(history(desk), ([{}, {"a": KEEP}], 1))

    def test_left_by_return_and_break(self):
        desk = Desk()

        def leave():
            with desk.trying():
                desk["a"] = KEEP
                return 5

        self.assertEqual(leave(), 5)
        for _ in range(3):
            with desk.trying():
                desk["b"] = MOVE
                break
        self.assertEqual(history(desk), ([{}, {"a": KEEP}, {"a": KEEP, "b": MOVE}], 2))

    def test_within_each_other(self):
        desk = desk_of(a=KEEP)
        with desk.trying() as outer:
            outer["b"] = MOVE
            with desk.trying() as inner:
                inner["c"] = MEDIAN
                self.assertIs(inner, desk)
            self.raising(desk, lambda held: held.drop("a"))
            self.assertEqual(desk.names(), ["a", "b", "c"])
            with desk.trying():
                pass
            self.raising(desk, lambda held: held.attempt(lambda desk: desk.drop("c")))
            self.assertEqual(desk.names(), ["a", "b", "c"])
            outer["d"] = MOST
        after = {"a": KEEP, "b": MOVE, "c": MEDIAN, "d": MOST}
        self.assertEqual(history(desk), ([{}, {"a": KEEP}, after], 2))

    def test_an_outer_trial_takes_back_what_inner_ones_kept(self):
        desk = desk_of(a=KEEP, b=MOVE)
        desk.undo()

        def steps(held):
            with held.trying():
                held["c"] = MEDIAN
            held.attempt(lambda desk: desk.drop("a"))
            held["d"] = MOST

        self.unchanged(desk, lambda: self.raising(desk, steps))

    def test_undo_and_redo_within_a_trial(self):
        desk = desk_of(a=KEEP, b=MOVE, c=MEDIAN)
        desk.undo()
        with desk.trying():
            self.assertEqual([desk.undo(), desk.redo(), desk.names()], [False, False, ["a", "b"]])
            desk["x"] = KEEP
            self.assertEqual([desk.undo(), desk.redo(), desk.names()], [False, False, ["a", "b", "x"]])
            with desk.trying():
                self.assertEqual([desk.undo(), desk.redo()], [False, False])
            self.assertEqual([desk.undo(), desk.redo()], [False, False])
            self.raising(desk, lambda held: held.drop("x"))
            self.assertEqual([desk.undo(), desk.redo(), desk.names()], [False, False, ["a", "b", "x"]])
        self.assertEqual([desk.redo(), desk.undo(), desk.names()], [False, True, ["a", "b"]])
        self.raising(desk, lambda held: self.assertEqual([held.undo(), held.redo()], [False, False]))
        self.assertEqual([desk.redo(), desk.names()], [True, ["a", "b", "x"]])

    def test_a_trial_begins_where_its_block_is_entered(self):
        desk = desk_of(a=KEEP)
        trial = desk.trying()
        desk["b"] = MOVE
        with self.assertRaises(Stop):
            with trial:
                desk.drop("a")
                raise Stop()
        self.assertEqual(state(desk), {"a": KEEP, "b": MOVE})
        later = desk.trying()
        desk.undo()
        with later:
            desk["c"] = MEDIAN
        self.assertEqual(history(desk), ([{}, {"a": KEEP}, {"a": KEEP, "c": MEDIAN}], 2))

    def test_two_desks(self):
        one, two = desk_of(a=KEEP), desk_of(b=MOVE)
        with one.trying(), two.trying():
            one["c"] = MEDIAN
            two.drop("b")
            self.assertEqual([one.undo(), two.undo()], [False, False])
        self.assertEqual([one.names(), two.names(), one.undo(), one.names(), two.names()],
                         [["a", "c"], [], True, ["a"], []])


class Attempts(DeskCase):
    def test_what_it_returns(self):
        desk = desk_of(a=KEEP)
        token = object()
        self.assertIs(desk.attempt(lambda held: token), token)
        self.assertIs(desk.attempt(step=lambda held: held), desk)
        self.assertIsNone(desk.attempt(lambda held: None))

    def test_it_is_one_change(self):
        desk = desk_of(a=KEEP)

        def step(held):
            held["b"] = MOVE
            held["c"] = MEDIAN
            return held.undo(), held.redo()

        self.assertEqual(desk.attempt(step), (False, False))
        self.assertEqual(history(desk)[0][-1], {"a": KEEP, "b": MOVE, "c": MEDIAN})
        self.assertEqual([desk.undo(), desk.names()], [True, ["a"]])

    def test_errors_of_the_step(self):
        desk = desk_of(a=KEEP, b=MOVE)
        desk.undo()
        error = Stop()

        def step(held):
            held["x"] = MEDIAN
            raise error

        for call in (lambda: desk.attempt(step), lambda: desk.attempt(step=step)):
            before = history(desk)
            with self.assertRaises(Stop) as caught:
                call()
            self.assertIs(caught.exception, error)
            self.assertEqual(history(desk), before)

    def test_within_a_trial_and_within_each_other(self):
        desk = Desk()

        def inner(held):
            held["b"] = MOVE
            raise Stop()

        def outer(held):
            held["a"] = KEEP
            try:
                held.attempt(inner)
            except Stop:
                held["c"] = MEDIAN
            return held.names()

        self.assertEqual(desk.attempt(outer), ["a", "c"])
        self.assertEqual(history(desk), ([{}, {"a": KEEP, "c": MEDIAN}], 1))
        with desk.trying():
            self.assertEqual(desk.attempt(lambda held: held.drop("a")), KEEP)
        self.assertEqual(len(history(desk)[0]), 3)


class Interface(Case):
    def test_the_class_itself_defines_what_is_listed(self):
        for name in ("__setitem__", "__getitem__", "__contains__", "__len__", "names", "drop", "alike", "below", "undo",
                     "redo", "trying", "attempt"):
            self.assertIn(name, vars(Desk))
        for name in ("__enter__", "__exit__"):
            self.assertIn(name, vars(Trial))

    def test_by_name(self):
        desk = desk_of(a=WIDE)
        self.assertIs(desk.drop(name="a"), WIDE)

    def test_many_changes(self):
        desk = Desk()
        with Clock(self):
            for number in range(5000):
                desk[NAMES[number % 12]] = (KEEP, MOVE, MEDIAN)[number % 3]
            for _ in range(5000):
                self.assertTrue(desk.undo())
        self.assertEqual([desk.undo(), len(desk)], [False, 0])


if __name__ == "__main__":
    unittest.main()
