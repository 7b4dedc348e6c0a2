"""Point [13]: texts of chains and of sets of rows; [1] for it."""
import unittest

from asked import KEEP, MEDIAN, MOVE, NO_CHAINS, Clock, chains_and_sweeps
from cases import Case
from ranksweeps.errors import NoChain, NoRows, NoText, TooLarge, TooMany
from ranksweeps.machines import Rows, all_rows, no_rows, rows_of
from ranksweeps.sweeps import Sweep
from ranksweeps.texts import chain_text, read_chain, read_rows, rows_text
from row_sets import long_set, ones, short_rows, some_machines, some_sets, taken, zeros
from values import KINDS

NO_TEXTS = tuple(kind for kind in KINDS if not isinstance(kind, str)) + (b"sweep 1 0 1 held all", ["sweep"])
SWEEP = "sweep 1,1,1 1 2 held all"
ON = "sweep 1,1 1 2 held on"
BACK = "sweep 1,1 0 2 cut back"
# What stands for no number: signs, leading zeros, other digits, what is beyond, and other words.
NO_NUMBER_WORDS = ("", "+0", "-0", "+1", "-1", "00", "01", "001", "1.0", "1,", "x", "sweep", "held", "1\n", "\t1",
                   "\u0661", "\u00b9", "10000000000000000000000", "1_0", "0x1", "one")


def replaced(text, index, word):
    words = text.split(" ")
    words[index] = word
    return " ".join(words)


class ChainText(Case):
    def test_the_example_of_the_document(self):
        self.assertEqual(chain_text(~(Sweep((1, 1, 1), 2) >> Sweep((1, 0), 1, own=1))),
                         "turned then sweep 1,1,1 1 2 held all sweep 1,0 1 1 held all")
        self.assertEqual(chain_text(Sweep((1, 1, 1), 2)), SWEEP)

    def test_each_kind(self):
        keep = "sweep 1 0 1 held all"
        for chain, text in (
                (KEEP >> MEDIAN, f"then {keep} {SWEEP}"),
                (KEEP | MEDIAN, f"higher {keep} {SWEEP}"),
                (KEEP & MEDIAN, f"lower {keep} {SWEEP}"),
                (~MEDIAN, f"turned {SWEEP}"),
                (MEDIAN.mirrored(), f"mirrored {SWEEP}"),
                (MEDIAN ** 0, f"times 0 {SWEEP}"),
                (KEEP ** 8, f"times 8 {keep}"),
                (Sweep((0, 3, 2, 0, 1, 1, 3), 10, own=6, ends="cut"), "sweep 0,3,2,0,1,1,3 6 10 cut all"),
                (Sweep((1, 1), 2, own=1, way="on"), ON),
                (Sweep((1, 1), 2, own=0, ends="cut", way="back"), BACK),
                ((KEEP >> ~MEDIAN) | (MOVE & KEEP), f"higher then {keep} turned {SWEEP} lower sweep 1,0 1 1 held all {keep}")):
            with self.subTest(text=text):
                self.assertEqual(chain_text(chain), text)
                self.assertEqual(read_chain(text), chain)

    def test_there_and_back(self):
        for seed in range(3):
            for chain in chains_and_sweeps(120, seed):
                text = chain_text(chain)
                self.assertIs(type(text), str)
                again = read_chain(text)
                self.assertEqual(again, chain)
                self.assertEqual(chain_text(again), text)
                self.assertEqual((again.size, again.depth, again.reach), (chain.size, chain.depth, chain.reach))

    def test_no_chain(self):
        for value in (*NO_CHAINS, Sweep, SWEEP, [KEEP]):
            self.refused(NoChain("chain"), chain_text, value)


class ReadChain(Case):
    def no_text(self, index, text):
        self.refused(NoText(index), read_chain, text)

    def test_the_examples_of_the_document(self):
        self.no_text(5, "times 2 sweep 1 0 2 held all")
        self.no_text(1, "turned  sweep")
        self.no_text(1, "turned")

    def test_no_string(self):
        for value in NO_TEXTS:
            self.no_text(-1, value)

    def test_kinds(self):
        for word in ("", "Sweep", "SWEEP", "sweeps", "swee", "1", "held", "sweep\n", "\tsweep", "all", "then,", "chain"):
            self.no_text(0, word)
            self.no_text(0, f"{word} 1 0 1 held all")
            self.no_text(1, f"turned {word} 1 0 1 held all")
            self.no_text(7, f"then {SWEEP} {word} 1 0 1 held all")

    def test_weights(self):
        for word in ("0", "0,0", "0,0,0,0,0,0,0", "4", "1,4", "1,,1", ",1", "1,", ",", "1;1", "1,1,1,1,1,1,1,1", "11", "01",
                     "1,01", "+1", "-1", "1,-1", "1, 1", "1,1\n", "", "x", "1,x", "\u0661", "1,\u0661"):
            self.no_text(1, f"sweep {word} 0 1 held all")
            self.no_text(1, f"sweep {word}")
        for word in ("1", "3", "0,1", "3,3,3,3,3,3,3", "0,0,0,0,0,0,1", "2,0"):
            self.assertEqual(read_chain(f"sweep {word} 0 1 held all"),
                             Sweep([int(digit) for digit in word.split(",")], 1, own=0))

    def test_own(self):
        for word in (*NO_NUMBER_WORDS, "3", "4", "7"):
            self.no_text(2, replaced(SWEEP, 2, word))
        for own in range(3):
            self.assertEqual(read_chain(replaced(SWEEP, 2, str(own))).own, own)
        self.no_text(2, "sweep 1 1 1 held all")

    def test_rank(self):
        for word in (*NO_NUMBER_WORDS, "0", "4", "5", "21"):
            self.no_text(3, replaced(SWEEP, 3, word))
        for rank in range(1, 4):
            self.assertEqual(read_chain(replaced(SWEEP, 3, str(rank))).rank, rank)
        self.assertEqual(read_chain("sweep 3,3,3,3,3,3,3 3 21 held all").rank, 21)
        self.no_text(3, "sweep 3,3,3,3,3,3,3 3 22 held all")

    def test_ends_and_way(self):
        for word in ("", "Held", "hold", "all", "cut,", "1", "held\n", "none"):
            self.no_text(4, replaced(SWEEP, 4, word))
        for word in ("", "All", "held", "on,", "1", "all\n", "forth"):
            self.no_text(5, replaced(SWEEP, 5, word))

    def test_times(self):
        for word in (*NO_NUMBER_WORDS, "9", "10", "08"):
            self.no_text(1, f"times {word} {SWEEP}")
        for number in range(9):
            self.assertEqual(read_chain(f"times {number} sweep 1 0 1 held all"), KEEP ** number)

    def test_each_place_with_an_empty_or_another_word(self):
        text = f"higher times 2 {SWEEP} then mirrored {SWEEP} turned lower sweep 1 0 1 held all sweep 1,0 1 1 cut all"
        self.assertEqual(chain_text(read_chain(text)), text)
        words = text.split(" ")
        for index in range(len(words)):
            for word in ("", "never", "-1", "+2", "01", "99", "higher,"):
                self.no_text(index, replaced(text, index, word))
            self.no_text(index, " ".join(words[:index] + [""] + words[index:]))
            # A text that ends too early wants one more word, behind all that it has.
            self.no_text(index, " ".join(words[:index]) if index else "")
            self.no_text(index, " ".join(words[:index] + [""]))

    def test_behind_the_end(self):
        for more in ("", " ", "all", "sweep", SWEEP, "0"):
            self.no_text(6, f"{SWEEP} {more}")
            self.no_text(7, f"turned {SWEEP} {more}")
            self.no_text(13, f"then {SWEEP} {SWEEP} {more}")
        self.no_text(0, f" {SWEEP}")
        self.no_text(5, f"{SWEEP}\n")
        self.no_text(0, "")
        self.no_text(0, " ")
        self.no_text(12, f"higher {SWEEP} sweep 1 0 1 held")

    def test_words_come_before_limits(self):
        wide = "sweep 1,0,0,0,0,0,1 3 1 held all"
        self.refused(TooLarge("reach"), read_chain, f"then {wide} {wide}")
        self.no_text(13, f"then {wide} {wide} ")
        self.no_text(12, f"then {wide} {wide}"[:-4])
        self.refused(TooLarge("written"), read_chain, "sweep 1,1,1,1,1 4 1 held on")
        self.no_text(6, "sweep 1,1,1,1,1 4 1 held on all")

    def test_the_first_chain_that_can_not_be_made(self):
        wide = "sweep 1,0,0,0,0,0,1 3 1 held all"
        written = "sweep 1,1,1,1,1 4 1 held on"
        keep = "sweep 1 0 1 held all"
        for part, text in (
                ("written", written),
                ("written", f"then {written} then {wide} {wide}"),
                ("reach", f"then then {wide} {wide} {written}"),
                ("written", f"turned then {keep} {written}"),
                ("ways", f"then {ON} {BACK}"),
                ("ways", f"higher {keep} lower {BACK} {ON}"),
                ("size", f"then times 8 {keep} {keep}"),
                ("size", f"times 2 times 5 {keep}"),
                ("reach", f"higher times 7 sweep 1,0 1 1 held all times 2 times 5 {keep}"),
                ("size", f"higher times 2 times 5 {keep} times 7 sweep 1,0 1 1 held all"),
                ("written", f"times 4 {ON}"),
                ("depth", "turned " * 20 + keep)):
            with self.subTest(text=text):
                self.refused(TooLarge(part), read_chain, text)
        self.assertEqual(read_chain("turned " * 19 + keep).depth, 20)
        # The ways of both parts are asked when their chain is made, not ahead of it.
        self.refused(TooLarge("written"), read_chain, f"then {ON} then {BACK} {written}")

    def test_long_and_deep_texts(self):
        keep = "sweep 1 0 1 held all"
        with Clock(self):
            for kind in ("turned ", "mirrored ", "times 1 ", "times 0 "):
                self.refused(TooLarge("depth"), read_chain, kind * 60000 + keep)
            self.no_text(60000, "turned " * 60000)
            self.no_text(60000, ("turned " * 60000)[:-1])
            self.no_text(60000 + 6, "then " * 60000 + keep)
            self.no_text(1, "turned " + " " * 100000)
            self.no_text(6, f"{keep} " * 20000)
            self.refused(TooLarge("size"), read_chain, "then " * 9999 + f"{keep} " * 9999 + keep)
            self.refused(TooLarge("size"), read_chain, f"lower times 0 {keep} " * 9999 + keep)
            self.refused(TooLarge("depth"), read_chain, f"times 0 lower {keep} " * 9999 + keep)

    def test_a_chain_with_many_thousand_words(self):
        chain = KEEP
        while chain.depth <= 15:
            for _ in range(3):
                chain = chain >> chain
            chain = chain ** 0
        with Clock(self):
            text = chain_text(chain)
            self.assertGreater(len(text.split(" ")), 20000)
            self.assertEqual(read_chain(text), chain)


class RowsText(Case):
    def test_the_example_of_the_document(self):
        self.assertEqual(rows_text(all_rows()), "0: 1 1\n1: 1 1 last")

    def test_others(self):
        self.assertEqual(rows_text(no_rows()), "0: 0 0")
        self.assertEqual(rows_text(Rows([[0, 1], [0, 1]], [False, True])), "0: 0 1\n1: 0 1 last")
        self.assertEqual(rows_text(rows_of([(1, 0)])), "0: 1 2\n1: 1 1\n2: 3 1\n3: 1 1 last")
        lines = rows_text(long_set(498)).split("\n")
        self.assertEqual((len(lines), lines[497], lines[498]), (500, "497: 498 498", "498: 499 499 last"))

    def test_there_and_back(self):
        for rows in [*some_sets(200, 1), long_set(498), zeros(60), ones(500), all_rows(), no_rows()]:
            text = rows_text(rows)
            self.assertEqual(read_rows(text), rows)
            self.assertEqual(rows_text(read_rows(text)), text)

    def test_no_rows(self):
        for value in (*KINDS, Rows, KEEP, "0: 0 0", [no_rows()]):
            self.refused(NoRows("rows", -1), rows_text, value)


class ReadRows(Case):
    def no_text(self, index, text):
        self.refused(NoText(index), read_rows, text)

    def test_machines_that_are_not_least(self):
        for steps, last in some_machines(200, 5, 12):
            text = "\n".join(f"{k}: {zero} {one}" + (" last" if last[k] else "") for k, (zero, one) in enumerate(steps))
            self.assertEqual(read_rows(text), Rows(steps, last))
            self.assertEqual(short_rows(read_rows(text)), short_rows(Rows(steps, last)))

    def test_last_in_line_0(self):
        rows = read_rows("0: 1 1 last\n1: 0 0")
        self.assertEqual(rows, Rows([(1, 1), (0, 0)], [True, False]))
        self.assertTrue(taken([(1, 1), (0, 0)], [True, False], (0, 1)) and (0, 1) in rows and (0,) not in rows)
        self.assertEqual(read_rows("0: 0 0 last"), all_rows())
        self.assertEqual(len(read_rows("0: 0 0 last")), 2)

    def test_no_string(self):
        for value in (*NO_TEXTS, b"0: 0 0", all_rows()):
            self.no_text(-1, value)

    def test_each_fault_in_a_line(self):
        wrong = ("", " ", "{k}", "{k}:", "{k}: 0", "{k}: 0 1 last last", "{k}: 0 1 Last", "{k}: 0 1 first", "{k}:0 1",
                 "{k} : 0 1", "{k} 0 1", " {k}: 0 1", "{k}: 0 1 ", "{k}: 0 1  last", "{k}:  0 1", "{k}: 0  1",
                 "{k}: 0 1\t", "{k}: 0 1\r", "{k}:\t0 1", "0{k}: 0 1", "+{k}: 0 1", "-{k}: 0 1", "9: 0 1", "{k}: 3 0",
                 "{k}: 0 3", "{k}: -1 0", "{k}: +1 0", "{k}: 0 01", "{k}: 00 1", "{k}: 0 x", "{k}: 0 1.0",
                 "{k}: 0 \u0661", "{k}; 0 1", "{k}: 0,1", "{k}: 0 1 0", "{k}: last", "{k}: 0 last", "x: 0 1",
                 "{k}:: 0 1", "{k}: 0 99999999999999999999999", "{k}: 0 1last", "{k}: (0 1)")
        right = ["0: 1 2", "1: 0 1 last", "2: 2 2"]
        self.assertEqual(read_rows("\n".join(right)), Rows([(1, 2), (0, 1), (2, 2)], [False, True, False]))
        for k in range(3):
            for line in wrong:
                lines = list(right)
                lines[k] = line.replace("{k}", str(k))
                self.no_text(k, "\n".join(lines))
                # The first wrong line is told.
                self.no_text(k, "\n".join(lines[:k + 1] + ["?"] * (2 - k)))

    def test_lines(self):
        self.no_text(0, "")
        self.no_text(0, "\n")
        self.no_text(1, "0: 0 0\n")
        self.no_text(0, "\n0: 0 0")
        self.no_text(1, "0: 0 0\n0: 0 0")
        self.no_text(0, "1: 0 0\n0: 0 0")
        self.no_text(0, "0: 1 0")
        self.no_text(0, "0: 0 0\r\n1: 0 0")

    def test_500_and_501_lines(self):
        def lines(count, line="{k}: 0 1 last"):
            return "\n".join(line.replace("{k}", str(k)) for k in range(count))

        self.assertEqual(read_rows(lines(500)), all_rows())
        self.no_text(500, lines(501))
        self.no_text(500, lines(5000))
        self.no_text(3, lines(501).replace("3: 0 1 last", "3: 0 1 least", 1))
        self.no_text(500, lines(501, "{k}: 500 500"))
        self.no_text(0, lines(501, "{k}: 501 500"))
        with Clock(self):
            self.no_text(500, lines(200000))
            self.no_text(0, "\n" * 1000000)

    def test_too_many(self):
        # The start is last and reached again behind 500 cells: it needs a state of its own.
        def text(last):
            return "\n".join(f"{k}: {(k + 1) % 500} {(k + 1) % 500}" + (" last" if k == last else "") for k in range(500))

        self.refused(TooMany(500), read_rows, text(0))
        self.assertEqual(len(read_rows(text(1))), 500)
        self.no_text(500, text(0) + "\n")

    def test_by_name(self):
        self.assertEqual(read_rows(text=rows_text(rows=all_rows())), all_rows())
        self.assertEqual(read_chain(text=chain_text(chain=KEEP)), KEEP)


if __name__ == "__main__":
    unittest.main()
