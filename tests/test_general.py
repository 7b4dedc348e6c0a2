"""Point [1] over the whole program: arguments by name, arguments that stay, results that are new and come again."""
import copy
import importlib
import inspect
import unittest

from asked import KEEP, MEDIAN, MOVE, SWING
from cases import Case
from ranksweeps.chains import Chain
from ranksweeps.cheapest import cheapest, check_cheapest, ruled_out
from ranksweeps.decided import above, alike_forms, differing, form, parting, relation
from ranksweeps.desks import Desk
from ranksweeps.errors import SweepError
from ranksweeps.images import images, kept, never, source, sources, ways
from ranksweeps.machines import Rows, all_rows, no_rows, rows_of, valued
from ranksweeps.passes import after, passes, stays
from ranksweeps.rings import ring, ring_count, ring_parting, ring_passes, ring_relation
from ranksweeps.rows import is_bits, is_row, level, levels
from ranksweeps.settling import settles, staying, staying_count, swinging, unsettled
from ranksweeps.sweeps import Sweep
from ranksweeps.texts import chain_text, read_chain, read_rows, rows_text
from test_form import DEFINED

ENDS_1 = Rows([(0, 1), (0, 1)], [False, True])
CHAIN = Sweep((1, 2, 1), 3) >> MOVE
ROW = [3, 1, 2, 2]
BITS = [0, 1, 1, 0]

# Each function and method with one call that raises no error: its arguments in the order of its parameters.
FUNCTIONS = (
    (is_row, {"value": ROW}),
    (is_bits, {"value": BITS}),
    (level, {"row": ROW, "value": 2}),
    (levels, {"row": ROW}),
    (Sweep, {"weights": [1, 0, 1], "rank": 2, "own": 0, "ends": "cut", "way": "all"}),
    (stays, {"chain": CHAIN, "row": ROW}),
    (passes, {"chain": CHAIN, "row": ROW, "most": 50}),
    (after, {"chain": CHAIN, "row": ROW, "number": 7}),
    (Rows, {"steps": [[1, 0], [0, 1]], "last": [True, False]}),
    (all_rows, {}),
    (no_rows, {}),
    (rows_of, {"some": [[0, 1], [1]]}),
    (valued, {"rows": ENDS_1, "values": 3, "length": 5, "modulo": 7}),
    (differing, {"p": CHAIN, "q": MEDIAN, "most": 400}),
    (above, {"p": CHAIN, "q": MEDIAN, "most": 400}),
    (parting, {"p": CHAIN, "q": MEDIAN}),
    (relation, {"p": CHAIN, "q": MEDIAN}),
    (form, {"p": CHAIN, "ahead": 1, "behind": 0}),
    (alike_forms, {"p": CHAIN, "q": MEDIAN}),
    (staying, {"p": CHAIN, "most": 400}),
    (swinging, {"p": SWING, "period": 2, "most": 400}),
    (unsettled, {"p": MEDIAN, "passes": 1, "most": 400}),
    (settles, {"p": MEDIAN, "passes": 1}),
    (staying_count, {"p": MEDIAN, "values": 3, "length": 4, "modulo": 11}),
    (images, {"p": MEDIAN, "rows": ENDS_1, "most": 400}),
    (never, {"p": MEDIAN, "most": 400}),
    (sources, {"p": CHAIN, "rows": ENDS_1, "most": 400}),
    (source, {"p": CHAIN, "row": BITS}),
    (ways, {"p": CHAIN, "row": BITS}),
    (kept, {"p": CHAIN, "rows": ENDS_1}),
    (ring, {"p": CHAIN, "row": ROW}),
    (ring_passes, {"p": CHAIN, "row": ROW, "most": 50}),
    (ring_relation, {"p": CHAIN, "q": MEDIAN}),
    (ring_parting, {"p": CHAIN, "q": MEDIAN}),
    (ring_count, {"p": MEDIAN, "length": 6, "modulo": 5}),
    (cheapest, {"p": MOVE ** 2, "sweeps": [MOVE, KEEP], "costs": [2, 0], "most": 2}),
    (ruled_out, {"p": MOVE ** 2, "sweeps": [MOVE, KEEP], "costs": [2, 0], "most": 2}),
    (check_cheapest, {"p": MOVE, "sweeps": [MOVE], "answer": [5, [0]], "reasons": [[[], [0, 1]]], "costs": [5], "most": 1}),
    (chain_text, {"chain": CHAIN}),
    (read_chain, {"text": "turned sweep 1,1 0 1 cut back"}),
    (rows_text, {"rows": ENDS_1}),
    (read_rows, {"text": "0: 1 0 last\n1: 0 1"}),
)
METHODS = (
    (CHAIN, "__call__", {"row": ROW}),
    (CHAIN, "repeated", {"number": 1}),
    (CHAIN, "mirrored", {}),
    (CHAIN, "sweeps", {}),
    (ENDS_1, "mirrored", {}),
    (ENDS_1, "turned", {}),
    (ENDS_1, "least", {}),
    (ENDS_1, "is_finite", {}),
    (ENDS_1, "longest", {}),
    (ENDS_1, "counted", {"length": 5, "modulo": 3}),
    (ENDS_1, "row", {"length": 4, "number": 2}),
    (ENDS_1, "place", {"row": [0, 1, 1]}),
    (ENDS_1, "listed", {"length": 3}),
)
DESK_METHODS = {"names": {}, "drop": {"name": "a"}, "alike": {}, "below": {}, "undo": {}, "redo": {}, "trying": {},
                "attempt": {"step": lambda desk: desk.names()}}


def plain(value):
    """A generator as the list of what it gives."""
    return list(value) if inspect.isgenerator(value) else value


def calls():
    for call, named in FUNCTIONS:
        yield call.__name__, call, named
    for owner, name, named in METHODS:
        yield name, getattr(owner, name), named


def by_position(call, named):
    """The call with all arguments by position but for those that are passed by name only."""
    kinds = inspect.signature(call).parameters
    first = [value for name, value in named.items() if kinds[name].kind != inspect.Parameter.KEYWORD_ONLY]
    rest = {name: value for name, value in named.items() if kinds[name].kind == inspect.Parameter.KEYWORD_ONLY}
    return call(*first, **rest)


def other_kind(value):
    """The value with tuples in the place of lists, and lists in the place of tuples."""
    if isinstance(value, list):
        return tuple(other_kind(item) for item in value)
    return [other_kind(item) for item in value] if isinstance(value, tuple) else value


def spoiled(value):
    """Change all lists in the value."""
    for item in value if isinstance(value, list) else ():
        spoiled(item)
    if isinstance(value, list):
        value.append("spoiled")
        value.reverse()


class Calls(Case):
    def test_every_function_of_the_interface_is_here(self):
        names = {name for names in DEFINED.values() for name in names}
        here = {call.__name__ for call, _ in FUNCTIONS}
        errors = set(DEFINED["errors"])
        self.assertEqual(names - here - errors, {"Chain", "Desk", "Trial"})
        for owner, kind in ((CHAIN, Chain), (ENDS_1, Rows)):
            public = {name for name in vars(kind) if not name.startswith("_")}
            self.assertEqual(public, {name for some, name, _ in METHODS if some is owner and name[0] != "_"})
        self.assertEqual({name for name in vars(Desk) if not name.startswith("_")} - {"change"}, set(DESK_METHODS))

    def test_the_names_of_the_parameters(self):
        for name, call, named in calls():
            self.assertEqual(list(inspect.signature(call).parameters), list(named), name)
        for name, named in DESK_METHODS.items():
            self.assertEqual(list(inspect.signature(getattr(Desk(), name)).parameters), list(named), name)

    def test_by_name_in_another_order(self):
        for name, call, named in calls():
            with self.subTest(name):
                turned = {key: named[key] for key in reversed(list(named))}
                self.assertEqual(plain(call(**turned)), plain(by_position(call, named)))
        for name, named in DESK_METHODS.items():
            for some in (named, {key: named[key] for key in reversed(list(named))}):
                desk = Desk()
                desk["a"] = MOVE
                getattr(desk, name)(**some)

    def test_a_second_call_gives_the_same(self):
        for name, call, named in calls():
            with self.subTest(name):
                first = plain(call(**named))
                again = plain(call(**named))
                self.assertEqual(first, again)
                self.assertIs(type(first), type(again))

    def test_arguments_stay_as_they_were(self):
        for name, call, named in calls():
            with self.subTest(name):
                own = copy.deepcopy(named)
                plain(call(**own))
                self.assertEqual(own, named)

    def test_lists_that_are_passed_may_be_changed_later(self):
        for name, call, named in calls():
            with self.subTest(name):
                own = copy.deepcopy(named)
                result = call(**own)
                expected = plain(call(**named))
                for value in own.values():
                    spoiled(value)
                self.assertEqual(plain(result), expected)

    def test_lists_that_are_returned_are_new(self):
        for name, call, named in calls():
            with self.subTest(name):
                expected = copy.deepcopy(plain(call(**named)))
                spoiled(plain(call(**named)))
                self.assertEqual(plain(call(**named)), expected)

    def test_a_list_and_a_tuple_are_equal_arguments(self):
        for name, call, named in calls():
            with self.subTest(name):
                self.assertEqual(plain(call(**{key: other_kind(value) for key, value in named.items()})),
                                 plain(call(**named)))

    def test_parameters_behind_a_star_are_passed_by_name_only(self):
        for name, call, named in calls():
            kinds = inspect.signature(call).parameters
            if any(kind.kind == inspect.Parameter.KEYWORD_ONLY for kind in kinds.values()):
                with self.subTest(name), self.assertRaises(TypeError):
                    call(*named.values())


class Objects(Case):
    def test_objects_never_change(self):
        sweep, rows = Sweep([1, 1, 1], 2), Rows([[0, 1], [0, 1]], [False, True])
        chain = sweep >> MOVE
        before = [copy.deepcopy(vars(some)) for some in (sweep, chain, rows)]
        for name, call, named in calls():
            replaced = {key: {"p": sweep, "q": sweep, "chain": chain, "rows": rows}.get(key, value)
                        for key, value in named.items()}
            try:
                plain(call(**replaced))
            except SweepError:
                pass
        for owner in (sweep, chain):
            owner | sweep, owner & sweep, ~owner, owner ** 1, owner.mirrored(), owner.sweeps(), owner((1, 2))
        rows & rows, rows | rows, rows - rows, rows ^ rows, ~rows, rows.mirrored(), rows.turned(), rows <= rows
        self.assertEqual([vars(some) for some in (sweep, chain, rows)], before)

    def test_equal_only_to_objects_of_the_same_kind(self):
        desk = Desk()
        for one, others in ((CHAIN, (ENDS_1, desk, chain_text(CHAIN), CHAIN.parts)),
                            (ENDS_1, (CHAIN, desk, rows_text(ENDS_1), ENDS_1.steps))):
            for other in others:
                self.assertIs(one == other, False)
                self.assertIs(one != other, True)
        self.assertEqual(copy.deepcopy(CHAIN), CHAIN)

    def test_error_classes(self):
        module = importlib.import_module("ranksweeps.errors")
        fields = {"NoRow": ["index"], "NoSweep": ["part"], "NoChain": ["name"], "NoNumber": ["name"], "TooMany": ["most"],
                  "TooLarge": ["part"], "NoRows": ["part", "index"], "NoForm": [], "NoRing": [], "NoText": ["index"],
                  "NoAnswer": ["part", "index"], "NoName": ["name"]}
        self.assertEqual({*fields, "SweepError"}, set(DEFINED["errors"]))
        self.assertEqual(SweepError.__bases__, (ValueError,))
        for name, names in fields.items():
            kind = getattr(module, name)
            self.assertEqual(kind.__bases__, (SweepError,))
            values = [[k, None, kind] for k in range(len(names))]
            for error in (kind(*values), kind(**dict(reversed(list(zip(names, values)))))):
                self.assertEqual([getattr(error, field) for field in names], values)


if __name__ == "__main__":
    unittest.main()
