"""Point [4], and what point [1] says of chains."""
import unittest

from by_words import chained, some_chains, some_rows, some_sweeps
from ranksweeps.chains import Chain, joint_direction, made
from ranksweeps.errors import NoNumber, NoRow, TooLarge
from ranksweeps.rows import level
from ranksweeps.sweeps import Sweep
from steps import step
from values import KINDS, NO_LISTS, NO_NUMBERS

ON = step((-1,))                                # moves the cells one on
OFF = step((1,))                                # moves them one back
MEDIAN = step((-1, 0, 1), 2)
KEEP = step((0,))
KEEP_ON = step((0,), way="on")
KEEP_BACK = step((0,), way="back")
ROW = (5, 1, 4, 4, 0)
ATTRIBUTES = ("kind", "parts", "times", "size", "depth", "reach", "written", "direction")


def attributes(chain):
    return [getattr(chain, name) for name in ATTRIBUTES]


def of_size(size):
    """A chain of this size with the least depth that sums give, reach (0, 0)."""
    if size == 1:
        return KEEP
    return of_size(size // 2) >> of_size(size - size // 2)


def of_depth(depth):
    chain = KEEP
    for _ in range(depth - 1):
        chain = ~chain
    return chain


class Making(unittest.TestCase):
    def test_steps_of_the_tests(self):
        self.assertEqual(ON(ROW), (5, 5, 1, 4, 4))
        self.assertEqual(OFF(ROW), (1, 4, 4, 0, 0))
        self.assertEqual(MEDIAN(ROW), (5, 4, 4, 4, 0))

    def test_the_example_of_the_document(self):
        chain = ON >> OFF
        self.assertEqual([chain((1, 2, 3)), chain.kind, chain.size, chain.reach],
                         [(1, 2, 2), "then", 2, (1, 1)])

    def test_then(self):
        self.assertEqual((ON >> MEDIAN)(ROW), MEDIAN(ON(ROW)))
        self.assertEqual((ON >> OFF)((1, 2, 3)), (1, 2, 2))
        self.assertEqual((OFF >> ON)((1, 2, 3)), (2, 2, 3))

    def test_higher_and_lower(self):
        self.assertEqual((ON | OFF)(ROW), (5, 5, 4, 4, 4))
        self.assertEqual((ON & OFF)(ROW), (1, 4, 1, 0, 0))
        self.assertEqual((ON | KEEP)((-3, -5, 2)), (-3, -3, 2))
        self.assertEqual((ON & KEEP)((-3, -5, 2)), (-3, -5, -5))

    def test_turned(self):
        least, greatest = step((-1, 0), 1), step((-1, 0), 2)
        self.assertEqual(least((3, 1, 2)), (3, 1, 1))
        self.assertEqual((~least)((3, 1, 2)), (3, 3, 2))
        self.assertEqual((~greatest)((3, -1, 2)), least((3, -1, 2)))
        self.assertEqual((~least)((0, 1, 0)), (0, 1, 1))
        self.assertEqual((~~least)(ROW), least(ROW))

    def test_mirrored(self):
        self.assertEqual(ON.mirrored()(ROW), OFF(ROW))
        self.assertEqual(ON.mirrored()((1, 2, 3)), (2, 3, 3))
        self.assertEqual((ON >> OFF).mirrored()((1, 2, 3)), (2, 2, 3))
        self.assertEqual(ON.mirrored().mirrored()(ROW), ON(ROW))

    def test_times(self):
        row = (1, 2, 3, 4, 5, 6, 7)
        for number, result in ((0, row), (1, (1, 1, 2, 3, 4, 5, 6)), (2, (1, 1, 1, 2, 3, 4, 5)),
                               (6, (1,) * 7)):
            self.assertEqual((ON ** number)(row), result)
            self.assertEqual(ON.repeated(number)(row), result)
        self.assertEqual((KEEP ** 8)(row), row)

    def test_chains_within_chains(self):
        chain = (~(ON >> MEDIAN) | (OFF & MEDIAN).mirrored()) ** 2
        row = ROW
        for _ in range(2):
            turned = tuple(-cell for cell in MEDIAN(ON(tuple(-cell for cell in row))))
            back = row[::-1]
            lower = tuple(min(pair) for pair in zip(OFF(back), MEDIAN(back)))
            row = tuple(max(pair) for pair in zip(turned, lower[::-1]))
        self.assertEqual(chain(ROW), row)

    def test_a_list_and_a_tuple_give_the_same(self):
        for chain in (ON >> OFF, ON | OFF, ON & OFF, ~ON, ON.mirrored(), ON ** 0, ON ** 2):
            self.assertEqual(chain(list(ROW)), chain(ROW))
            self.assertIs(type(chain(list(ROW))), tuple)
            self.assertEqual(len(chain(ROW)), len(ROW))

    def test_rows_of_1_and_of_200(self):
        for chain in (ON >> OFF, ON | OFF, ON & OFF, ~ON, ON.mirrored(), ON ** 0, ON ** 2):
            self.assertEqual(chain((7,)), (7,))
            self.assertEqual(chain([3] * 200), (3,) * 200)

    def test_a_passed_row_stays_as_it_was(self):
        row = list(ROW)
        for chain in (ON >> OFF, ON | OFF, ON & OFF, ~ON, ON.mirrored(), ON ** 0, ON ** 2):
            chain(row)
        self.assertEqual(row, list(ROW))

    def test_by_name(self):
        self.assertEqual((ON >> OFF)(row=(1, 2, 3)), (1, 2, 2))
        self.assertEqual(ON.repeated(number=2), ON ** 2)

    def test_no_row(self):
        for chain in (ON >> OFF, ON | OFF, ON & OFF, ~ON, ON.mirrored(), ON ** 0, ON ** 2):
            for value in (*NO_LISTS, [], (), [0] * 201, [None] * 201):
                self.refused(chain, value, -1)
            for item in NO_NUMBERS + ([1], (1,)):
                self.refused(chain, [item, 1, None], 0)
                self.refused(chain, (1, item, None), 1)
                self.refused(chain, [1, 2, item], 2)

    def refused(self, chain, row, index):
        with self.assertRaises(NoRow) as caught:
            chain(row)
        self.assertEqual(caught.exception.index, index)

    def test_another_step_through_the_same_chain(self):
        def ring(sweep, row):
            offset = sweep.weights.index(1) - sweep.own
            return tuple(row[(k + offset) % len(row)] for k in range(len(row)))

        for chain, result in ((ON, (3, 1, 2)), (ON >> OFF, (1, 2, 3)), (ON | OFF, (3, 3, 2)), (ON & OFF, (2, 1, 1)),
                              (~ON, (3, 1, 2)), (ON.mirrored(), (2, 3, 1)), (ON ** 2, (2, 3, 1)), (ON ** 0, (1, 2, 3))):
            self.assertEqual(made(chain, (1, 2, 3), ring), result)
        self.assertEqual(made(ON ** 3, (0,) * 299 + (1,), ring), (0, 0, 1) + (0,) * 297)


class OfSweeps(unittest.TestCase):
    """Chains of sweeps of all kinds."""

    def test_all_kinds_are_among_them(self):
        chains = some_chains(300, 1) + some_chains(300, 2, ("all", "back"))
        self.assertEqual({chain.kind for chain in chains}, {"then", "higher", "lower", "turned", "mirrored", "times"})
        self.assertEqual({chain.direction for chain in chains}, {"all", "on", "back"})

    def test_word_by_word(self):
        for chain in some_chains(300, 3) + some_chains(100, 4, ("all", "back")):
            for row in some_rows(8, 5) + some_rows(1, chain.size, 200, 30):
                self.assertEqual(chain(row), chained(chain, row))
                self.assertEqual(chain(list(row)), chain(row))

    def test_each_kind_over_200_cells(self):
        p, q = Sweep((1, 2, 0, 1), 3, ends="cut", way="on"), Sweep((1, 1, 1), 2)
        row = tuple((k * k) % 211 - 100 for k in range(200))
        for chain in (p >> q, p | q, p & q, ~p, p.mirrored(), p ** 2, p ** 0):
            self.assertEqual(chain(row), chained(chain, row))
            self.assertEqual(chain(list(row)), chain(row))
            self.assertEqual(len(chain(row)), 200)

    def test_levels_pass_through(self):
        for chain in some_chains(60, 6) + some_chains(20, 7, ("all", "back")):
            for row in some_rows(4, 8):
                for value in range(-4, 4):
                    self.assertEqual(chain(level(row, value)), level(chain(row), value))

    def test_the_operators_as_the_document_explains_them(self):
        sweeps = some_sweeps(40, 9, ("all",))
        for p, q in zip(sweeps[::2], sweeps[1::2]):
            for row in some_rows(6, 10):
                self.assertEqual((p | p)(row), p(row))
                self.assertEqual(p.mirrored()(row), p(row[::-1])[::-1])
                self.assertEqual((~p)(row), tuple(-cell for cell in p(tuple(-cell for cell in row))))
                self.assertEqual((p ** 1)(row), p(row))
                self.assertEqual((q ** 0)(row), row)

    def test_limits_are_kept(self):
        for chain in some_chains(300, 11) + some_chains(100, 12, ("all", "back")):
            self.assertLessEqual(chain.size, 8)
            self.assertLessEqual(chain.depth, 20)
            self.assertLessEqual(sum(chain.reach), 6)
            self.assertLessEqual(chain.written, 3)
            self.assertIn(chain.direction, ("all", "on", "back"))

    def test_equal_if_made_alike(self):
        chains, others = some_chains(60, 13), some_chains(60, 13)
        for a, chain in enumerate(chains):
            self.assertEqual(chain, others[a])
            self.assertIsNot(chain, others[a])
            self.assertEqual([chain == other for other in others].count(True),
                             [str(written(chain)) == str(written(other)) for other in others].count(True))


def written(chain):
    """How a chain is written, as tuples."""
    if chain.kind == "sweep":
        return (chain.weights, chain.rank, chain.own, chain.ends, chain.way)
    return (chain.kind, chain.times, *[written(part) for part in chain.parts])


class Attributes(unittest.TestCase):
    wide = step((-2, 1), way="on")              # reach (2, 1), written 2
    slim = step((-1, 3), 2)                     # reach (1, 3), written 0

    def test_of_a_sweep(self):
        self.assertEqual(attributes(self.wide), ["sweep", (), 1, 1, 1, (2, 1), 2, "on"])
        self.assertEqual(attributes(self.slim), ["sweep", (), 1, 1, 1, (1, 3), 0, "all"])

    def test_of_then(self):
        near = step((-1, 0, 1), 2, way="on")
        self.assertEqual(attributes(near >> self.wide),
                         ["then", (near, self.wide), 1, 2, 2, (3, 2), 3, "on"])
        self.assertEqual(attributes((near >> KEEP) >> OFF),
                         ["then", (near >> KEEP, OFF), 1, 3, 3, (1, 2), 1, "on"])

    def test_of_higher_and_lower(self):
        for kind, chain in (("higher", self.wide | self.slim), ("lower", self.wide & self.slim)):
            self.assertEqual(attributes(chain), [kind, (self.wide, self.slim), 1, 2, 2, (2, 3), 2, "on"])
        for kind, chain in (("higher", self.slim | (KEEP_BACK >> KEEP)), ("lower", self.slim & (KEEP_BACK >> KEEP))):
            self.assertEqual(attributes(chain), [kind, (self.slim, KEEP_BACK >> KEEP), 1, 3, 3, (1, 3), 0, "back"])

    def test_written_of_two_parts_is_a_sum(self):
        one, two = step((-1,), way="on"), step((-2,), way="on")
        for chain in (one >> two, one | two, one & two):
            self.assertEqual(chain.written, 3)

    def test_of_turned(self):
        chain = self.wide >> KEEP
        self.assertEqual(attributes(~chain), ["turned", (chain,), 1, 2, 3, (2, 1), 2, "on"])

    def test_of_mirrored(self):
        chain = self.wide >> KEEP
        self.assertEqual(attributes(chain.mirrored()), ["mirrored", (chain,), 1, 2, 3, (1, 2), 2, "back"])
        self.assertEqual(KEEP_BACK.mirrored().direction, "on")
        self.assertEqual(self.slim.mirrored().direction, "all")

    def test_of_times(self):
        chain = step((-1, 1), way="back") | KEEP
        self.assertEqual(attributes(chain), ["higher", chain.parts, 1, 2, 2, (1, 1), 1, "back"])
        self.assertEqual(attributes(chain ** 0), ["times", (chain,), 0, 1, 3, (0, 0), 0, "all"])
        self.assertEqual(attributes(chain ** 1), ["times", (chain,), 1, 2, 3, (1, 1), 1, "back"])
        self.assertEqual(attributes(chain ** 3), ["times", (chain,), 3, 6, 3, (3, 3), 3, "back"])
        self.assertEqual(attributes(KEEP ** 8), ["times", (KEEP,), 8, 8, 2, (0, 0), 0, "all"])

    def test_direction_of_two_parts(self):
        ways = {"all": KEEP, "on": KEEP_ON, "back": KEEP_BACK}
        for first, second, joint in (("all", "all", "all"), ("all", "on", "on"), ("on", "all", "on"),
                                     ("all", "back", "back"), ("back", "all", "back"),
                                     ("on", "on", "on"), ("back", "back", "back")):
            p, q = ways[first], ways[second]
            self.assertEqual(joint_direction(first, second), joint)
            self.assertEqual([(p >> q).direction, (p | q).direction, (p & q).direction], [joint] * 3)

    def test_operators_leave_their_operands(self):
        p, q = self.wide >> KEEP, step((-1, 0), 1)
        before = attributes(p), attributes(q), p(ROW), q(ROW)
        for call in (lambda: p >> q, lambda: p | q, lambda: p & q, lambda: ~p, lambda: p ** 0,
                     lambda: p.repeated(1), p.mirrored, p.sweeps, lambda: p == q):
            call()
            self.assertEqual((attributes(p), attributes(q), p(ROW), q(ROW)), before)

    def test_all_are_chains(self):
        for chain in (ON >> OFF, ON | OFF, ON & OFF, ~ON, ON.mirrored(), ON ** 2, ON.repeated(0)):
            self.assertIs(type(chain), Chain)
            self.assertIs(type(chain.parts), tuple)
            self.assertIs(type(chain.reach), tuple)


class Repeating(unittest.TestCase):
    def test_power_is_repeated(self):
        for number in (0, 1, 8):
            self.assertEqual(KEEP ** number, KEEP.repeated(number))
            self.assertEqual((KEEP ** number).times, number)

    def test_no_number(self):
        for number in (-1, 9, -10 ** 50, 10 ** 50, [1], (1,), *NO_NUMBERS):
            for call in (KEEP.repeated, lambda k: KEEP ** k, (ON >> OFF).repeated):
                with self.subTest(number=number):
                    with self.assertRaises(NoNumber) as caught:
                        call(number)
                    self.assertEqual(caught.exception.name, "times")

    def test_no_number_ahead_of_too_large(self):
        with self.assertRaises(NoNumber):
            (of_depth(20)) ** 9


class Limits(unittest.TestCase):
    def broken(self, part, call, *arguments):
        with self.subTest(part):
            with self.assertRaises(TooLarge) as caught:
                call(*arguments)
            self.assertEqual(caught.exception.part, part)

    def two_parts(self, part, first, second):
        self.broken(part, lambda: first >> second)
        self.broken(part, lambda: first | second)
        self.broken(part, lambda: first & second)

    def test_size(self):
        four = of_size(4)
        for chain in (four >> four, four | four, four & four, four ** 2, KEEP ** 8, (of_size(8) ** 0) ** 8):
            self.assertEqual(chain.size, 8)
        self.two_parts("size", four, of_size(5))
        self.two_parts("size", of_size(8), KEEP)
        self.broken("size", of_size(3).repeated, 3)
        self.broken("size", of_size(5).repeated, 2)

    def test_depth(self):
        deep = of_depth(19)
        for chain in (deep >> KEEP, KEEP | deep, deep & deep, ~deep, deep.mirrored(), deep ** 0, deep ** 2):
            self.assertEqual(chain.depth, 20)
        deep = of_depth(20)
        self.two_parts("depth", deep, KEEP)
        self.two_parts("depth", KEEP, deep)
        self.broken("depth", lambda: ~deep)
        self.broken("depth", deep.mirrored)
        self.broken("depth", deep.repeated, 0)
        self.broken("depth", deep.repeated, 8)

    def test_reach(self):
        three = step((-1, 2))
        for chain in (three >> three, step((-6, 0)) | KEEP, step((-6,)) & ON, step((-4,)) | step((2,)),
                      three ** 2, ON ** 6, step((1, 6)).mirrored(), ~step((-2, 4))):
            self.assertEqual(sum(chain.reach), 6)
        self.broken("reach", lambda: three >> (ON | step((3,))))
        self.broken("reach", lambda: step((-4,)) | step((3,)))
        self.broken("reach", lambda: step((-4, 2)) & step((3,)))
        self.broken("reach", three.repeated, 3)
        self.broken("reach", ON.repeated, 7)
        self.broken("reach", OFF.repeated, 7)
        self.assertEqual((step((-3, 3)) ** 0).reach, (0, 0))

    def test_written(self):
        one, two = step((-1,), way="on"), step((2,), way="back")
        for chain in (one >> one >> one, (one | one) & one, one ** 3, two | step((1,), way="back"),
                      ~step((-3,), way="on"), step((3,), way="back").mirrored()):
            self.assertEqual(chain.written, 3)
        self.two_parts("written", one, one ** 3)
        self.two_parts("written", two, two)
        self.broken("written", one.repeated, 4)
        self.broken("written", two.repeated, 2)
        self.broken("written", step, (-4,), 1, "on")
        self.assertEqual((one ** 0).written, 0)

    def test_ways(self):
        self.two_parts("ways", KEEP_ON, KEEP_BACK)
        self.two_parts("ways", KEEP_BACK, KEEP_ON)
        self.two_parts("ways", KEEP_BACK >> KEEP, ~KEEP_ON ** 1)
        self.two_parts("ways", KEEP_ON, KEEP_ON.mirrored())
        self.assertEqual((KEEP_ON >> KEEP_BACK.mirrored()).direction, "on")
        self.assertEqual((KEEP_ON ** 0 >> KEEP_BACK).direction, "back")

    def test_the_first_broken_one(self):
        far_on, far_back = step((-3, 3), way="on"), step((-3, 3), way="back")
        # Each pair breaks the named limit and all that are checked behind it.
        large = of_size(7) >> far_on
        while large.depth < 20:
            large = ~large
        deep = far_on
        while deep.depth < 20:
            deep = ~deep
        self.two_parts("size", large, far_back)
        self.two_parts("size", far_back, large)
        self.broken("size", large.repeated, 8)
        self.two_parts("depth", deep, far_back)
        self.two_parts("depth", far_back, deep)
        self.broken("depth", deep.repeated, 8)
        self.broken("reach", lambda: far_on >> far_back)
        self.broken("reach", far_on.repeated, 2)
        self.two_parts("reach", step((-3,), way="on"), step((3,), way="back") | step((4,)))
        self.broken("written", lambda: far_on | far_back)
        self.broken("written", lambda: far_on & far_back)
        self.two_parts("written", step((-2,), way="on"), step((2,), way="back"))
        self.two_parts("ways", KEEP_ON, far_back)

    def test_a_chain_that_could_not_be_made_leaves_its_parts(self):
        p, q = of_size(5), of_size(4)
        before = attributes(p), attributes(q)
        self.two_parts("size", p, q)
        self.assertEqual((attributes(p), attributes(q)), before)


class Equality(unittest.TestCase):
    makers = (
        lambda: ON >> OFF,
        lambda: OFF >> ON,
        lambda: ON | OFF,
        lambda: OFF | ON,
        lambda: ON & OFF,
        lambda: ~ON,
        lambda: ~OFF,
        lambda: ~~ON,
        lambda: ON.mirrored(),
        lambda: ON ** 0,
        lambda: ON ** 1,
        lambda: ON ** 2,
        lambda: OFF ** 2,
        lambda: (ON >> OFF) >> MEDIAN,
        lambda: ON >> (OFF >> MEDIAN),
        lambda: ON >> step((1,), way="on"),
        lambda: step((-1,)),
        lambda: step((1,)),
        lambda: step((-1, 0, 1), 1),
        lambda: step((-1, 0, 1), 2),
    )

    def test_equal_exactly_if_written_alike(self):
        for a, first in enumerate(self.makers):
            for b, second in enumerate(self.makers):
                with self.subTest(first=a, second=b):
                    self.assertIs(first() == second(), a == b)
                    self.assertIs(first() != second(), a != b)

    def test_parts_made_anew_are_equal(self):
        self.assertEqual(~(step((-1,)) >> step((1,))) ** 2, ~(step((-1,)) >> step((1,))) ** 2)

    def test_alike_but_not_written_alike(self):
        self.assertNotEqual(ON.mirrored(), OFF)
        self.assertNotEqual(ON >> KEEP, ON)
        self.assertNotEqual(ON ** 1, ON)
        self.assertNotEqual(ON ** 2, ON >> ON)

    def test_no_other_value_is_equal(self):
        chain = ON >> OFF
        for value in KINDS:
            self.assertIs(chain == value, False)
            self.assertIs(value == chain, False)
            self.assertIs(chain != value, True)
        for value in (chain.parts, [chain], "then", chain.kind, (chain,), chain((1, 2, 3))):
            self.assertIs(chain == value, False)


class Sweeps(unittest.TestCase):
    def test_of_a_sweep(self):
        self.assertEqual(ON.sweeps(), [ON])
        self.assertIs(ON.sweeps()[0], ON)

    def test_in_the_order_of_parts(self):
        chain = (ON >> ~OFF.mirrored()) | (MEDIAN & ON)
        self.assertEqual(chain.sweeps(), [ON, OFF, MEDIAN, ON])
        self.assertEqual(((MEDIAN >> OFF) >> ON).sweeps(), [MEDIAN, OFF, ON])

    def test_times_counts_once(self):
        self.assertEqual((ON ** 3).sweeps(), [ON])
        self.assertEqual((ON ** 0).sweeps(), [ON])
        self.assertEqual(((ON >> OFF) ** 2).sweeps(), [ON, OFF])

    def test_a_new_list_each_time(self):
        for chain in (ON, ON >> OFF, ~ON):
            first = chain.sweeps()
            self.assertIs(type(first), list)
            expected = list(first)
            first.append(MEDIAN)
            self.assertEqual(chain.sweeps(), expected)


class Interface(unittest.TestCase):
    def test_the_class_itself_defines_what_is_listed(self):
        for name in ("__call__", "__rshift__", "__or__", "__and__", "__invert__", "__pow__", "__eq__",
                     "repeated", "mirrored", "sweeps"):
            self.assertIn(name, vars(Chain))


if __name__ == "__main__":
    unittest.main()
