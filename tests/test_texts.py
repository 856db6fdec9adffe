import unittest
from copy import deepcopy
from itertools import product

from helper import SIZES, every_word, is_paper, is_words, some_lists, wrapped
from wordsapart.errors import ApartError, NoText
from wordsapart.tables import table
from wordsapart.texts import read_list, read_paper, show_list, show_paper

MAKINGS = ["nearer", "cut", "shorter", "longer"]
SIXTY = 10 ** 60 - 1
INMOST = [("one",), ("all",), ("balls",), ("waves", 3, [1, 0, 2]), ("waves", 0, [0]), ("waves", 1, []),
          ("waves", 0, []), ("waves", SIXTY, [SIXTY, 0, 10 ** 59]), ("waves", 10, list(range(300)))]
SIGNS = "".join(chr(code) for code in range(32, 127))


def some_papers():
    """Papers of every making, up to three makings one within the other, and of twelve."""
    told = [wrapped(makings, paper) for many in range(3) for makings in product(MAKINGS, repeat=many)
            for paper in INMOST]
    told += [wrapped((MAKINGS * 3)[at:at + 11], paper) for at in range(2) for paper in INMOST]
    return told + [wrapped([making] * 11, paper) for making in MAKINGS for paper in INMOST]


def near_texts(text):
    """Texts that differ a little from a text: a sign left out, put in, exchanged, and two neighbours turned."""
    told = [text[:at] + text[at + 1:] for at in range(len(text))]
    told += [text[:at] + sign + text[at:] for at in range(len(text) + 1) for sign in SIGNS]
    told += [text[:at] + sign + text[at + 1:] for at in range(len(text)) for sign in SIGNS]
    return told + [text[:at] + text[at + 1] + text[at] + text[at + 2:] for at in range(len(text) - 1)]


class Refusing(unittest.TestCase):
    def refused(self, call, *handed):
        with self.assertRaises(NoText) as caught:
            call(*handed)
        self.assertIs(type(caught.exception), NoText)
        self.assertIsInstance(caught.exception, ApartError)
        self.assertIsInstance(caught.exception, ValueError)


class Lists(Refusing):
    def test_written_out(self):
        self.assertEqual(show_list([]), "-")
        self.assertEqual(show_list(["0110"]), "0110")
        self.assertEqual(show_list(["10", "01", "11"]), "10 01 11")
        self.assertEqual(read_list(2, 4, "-"), [])
        self.assertEqual(read_list(2, 4, "0110"), ["0110"])
        self.assertEqual(read_list(2, 2, "10 01 11"), ["10", "01", "11"])
        self.assertEqual(read_list(3, 1, "2 0 1"), ["2", "0", "1"])

    def test_what_is_written_is_read_to_the_same_in_its_order(self):
        for q, n in SIZES:
            for words in some_lists(q, n):
                before = list(words)
                text = show_list(words)
                self.assertIs(type(text), str)
                self.assertEqual(text, " ".join(before) if before else "-")
                told = read_list(q, n, text)
                self.assertTrue(is_words(q, n, told))
                self.assertEqual(told, before)
                self.assertEqual(words, before)

    def test_refused(self):
        for text in ("", " ", "  ", " " * 20000, "--", "- ", " -", "- -", "0000 -", "- 0000", "000", "00000", "0002",
                     "000a", "00 0", " 0000", "0000 ", "0000  0001", "0000 0000", "0000 0001 0000", "0000,0001",
                     "0000 001", "0000 00011", "0000 0003", "0000 0001 ", "-0000", "+000", "0000 000-", "none", "list",
                     "0 0 0 0", "0000 2000", "~" * 20000, "0000 " * 4000, "0" * 20000, "0000.", "0x00"):
            self.refused(read_list, 2, 4, text)
        self.refused(read_list, 3, 2, "03")
        self.refused(read_list, 2, 1, "2")
        self.assertEqual(read_list(3, 1, "2"), ["2"])
        self.refused(read_list, 2, 8, "00000000 0000000")
        for q, n in SIZES:
            self.refused(read_list, q, n, str(q) * n)
            self.refused(read_list, q, n, "0" * (n + 1))
            self.refused(read_list, q, n, "0" * (n - 1))
            self.refused(read_list, q, n, " ".join(every_word(q, n) + ["0" * n]))

    def test_whatever_is_read_is_what_is_written_of_it(self):
        for q, n, text in ((2, 3, "011 000 111"), (3, 2, "21 00"), (2, 1, "0"), (2, 1, "1 0"), (2, 2, "-")):
            read = 0
            for near in near_texts(text) + [text]:
                try:
                    words = read_list(q, n, near)
                except NoText:
                    continue
                read += 1
                self.assertTrue(is_words(q, n, words))
                self.assertEqual(len(set(words)), len(words))
                self.assertEqual(show_list(words), near)
            self.assertGreater(read, 0)

    def test_a_told_list_is_the_askers_own(self):
        for text in ("-", "00 11"):
            first = read_list(2, 2, text)
            before = list(first)
            first.append("01")
            self.assertEqual(read_list(2, 2, text), before)

    def test_a_handed_list_that_is_changed_behind_changes_nothing(self):
        words = ["01", "10"]
        text = show_list(words)
        words.append("11")
        self.assertEqual(text, "01 10")


class Papers(Refusing):
    def test_written_out(self):
        written = {"one": ("one",), "all": ("all",), "balls": ("balls",), "waves 3: 1 0 2": ("waves", 3, [1, 0, 2]),
                   "waves 0: -": ("waves", 0, []), "waves 12: 0": ("waves", 12, [0]),
                   "cut of shorter of waves 3: 1 0 2": ("cut", ("shorter", ("waves", 3, [1, 0, 2]))),
                   "nearer of one": ("nearer", ("one",)), "longer of all": ("longer", ("all",)),
                   "longer of nearer of waves 1: -": ("longer", ("nearer", ("waves", 1, [])))}
        for text, paper in written.items():
            self.assertEqual(show_paper(paper), text)
            self.assertEqual(read_paper(text), paper)

    def test_what_is_written_is_read_to_the_same(self):
        seen = set()
        for paper in some_papers():
            before = deepcopy(paper)
            text = show_paper(paper)
            self.assertIs(type(text), str)
            told = read_paper(text)
            self.assertTrue(is_paper(told))
            self.assertEqual(told, before)
            self.assertEqual(paper, before)
            self.assertEqual(show_paper(told), text)
            seen.add(text)
        self.assertEqual(len(seen), len(some_papers()))

    def test_the_papers_of_the_tables(self):
        for q in (2, 3):
            for words, paper, number in table(q).values():
                self.assertEqual(read_paper(show_paper(paper)), paper)

    def test_weights_need_not_be_right(self):
        self.assertEqual(read_paper("waves 0: 0"), ("waves", 0, [0]))
        self.assertEqual(read_paper("waves 7: " + "1 " * 5000 + "1"), ("waves", 7, [1] * 5001))

    def test_sixty_figures_and_sixty_one(self):
        for figures in ("1" + "0" * 59, "9" * 60):
            self.assertEqual(read_paper(f"waves {figures}: {figures} 0"), ("waves", int(figures), [int(figures), 0]))
            for text in (f"waves {figures}0: 1", f"waves 1: {figures}0", f"waves 1: 1 {figures}0 1"):
                self.refused(read_paper, text)
        self.refused(read_paper, f"waves {'0' * 60}: 1")
        self.refused(read_paper, f"waves 1: {'9' * 15000}")

    def test_twelve_makings_and_thirteen(self):
        for making in MAKINGS:
            for inmost in ("one", "balls", "waves 2: 1 0"):
                text = f"{making} of " * 11 + inmost
                self.assertEqual(show_paper(read_paper(text)), text)
                self.assertEqual(read_paper(text), wrapped([making] * 11, read_paper(inmost)))
                self.refused(read_paper, f"{making} of " + text)
        self.refused(read_paper, "cut of " * 2000 + "one")

    def test_refused(self):
        for text in ("", " ", "   ", " " * 20000, "-", "one ", " one", "One", "ONE", "ones", "on", "one one", "one of",
                     "one of one", "all of one", "balls of all", "waves", "waves ", "waves 3", "waves 3:", "waves 3: ",
                     "waves : 1", "waves: 1", "waves  3: 1", "waves 3:  1", "waves 3: 1 ", "waves 3: 1  2",
                     "waves 3 : 1",
                     "waves 3:1", "waves 3 1", "waves 3; 1", "waves 03: 1", "waves 00: 1", "waves 3: 01", "waves 3: 00",
                     "waves 3: 1 00 1", "waves -3: 1", "waves 3: -1", "waves +3: 1", "waves 3: +1", "waves 3: - 1",
                     "waves 3: 1 -", "waves 3: --", "waves -: 1", "waves 3: 1,0", "waves 3: 1.0", "waves 3: 1_0",
                     "waves 3: 1: 2", "waves 3: : 1", "waves 3: 1 of one", "waves 3: 1 0 x", "waves x: 1",
                     " waves 3: 1",
                     "waves 1 2: 1", "Waves 3: 1", "wave 3: 1", "waves3: 1", "waves 3: a", "waves 1e2: 1",
                     "waves 0x1: 1",
                     "cut", "cut ", "cut of", "cut of ", "cut one", "cut  of one", "cut of  one", "cut Of one",
                     "cut of cut", "cut of of one", "of one", " of one", "cut of one of all", "cutof one", "cut ofone",
                     "Cut of one", "cuts of one", "nearer of", "shorter of longer", "cut of waves", "cut of waves 3:",
                     "cut of shorter of waves 3: 1 0 02", "further of one", "cut of one ", "cut of one cut of one",
                     "cut, one", "cut of -", "cut of waves 3: 1 of cut", "~" * 20000, "of" * 10000, " of " * 5000,
                     "waves 1: " + "1 " * 9000, "1", "0", "waves of one", "waves 1: - -", "one:", "one: 1", "balls: -"):
            self.refused(read_paper, text)

    def test_whatever_is_read_is_what_is_written_of_it(self):
        for text in ("one", "all", "balls", "waves 3: 1 0 2", "waves 10: -", "cut of shorter of waves 3: 1 0 2",
                     "longer of nearer of balls"):
            read = []
            for near in near_texts(text) + [text]:
                try:
                    paper = read_paper(near)
                except NoText:
                    continue
                self.assertTrue(is_paper(paper))
                self.assertEqual(show_paper(paper), near)
                read.append(near)
            self.assertIn(text, read)

    def test_a_told_paper_is_the_askers_own(self):
        for text in ("waves 3: 1 0", "cut of waves 3: -"):
            first = read_paper(text)
            before = deepcopy(first)
            rows = first[-1] if first[0] == "waves" else first[1][-1]
            rows.append(5)
            self.assertEqual(read_paper(text), before)
            self.assertNotEqual(first, before)

    def test_rows_that_are_changed_behind_change_nothing_that_was_told(self):
        rows = [1, 0]
        paper = ("cut", ("waves", 2, rows))
        text = show_paper(paper)
        rows.append(7)
        self.assertEqual(text, "cut of waves 2: 1 0")
        self.assertEqual(show_paper(paper), "cut of waves 2: 1 0 7")

    def test_more_makings_and_figures_are_written_without_an_error(self):
        self.assertEqual(show_paper(wrapped(["cut"] * 15, ("all",))), "cut of " * 15 + "all")
        self.assertEqual(show_paper(("waves", 10 ** 70, [1])), f"waves 1{'0' * 70}: 1")


if __name__ == "__main__":
    unittest.main()
