import unittest
from itertools import product
from unittest import mock

from helper import SIZES, every_word, slow_apart, slow_counts, slow_paper, slow_swells, spread_row
from wordsapart import desk as desk_file
from wordsapart.desk import Desk
from wordsapart.errors import ApartError, Near, NoLine, NoSize, NoWord
from wordsapart.tables import table
from wordsapart.texts import read_paper, show_paper

TABLES = {q: table(q) for q in (2, 3)}
FORTY = "9" * 40
NO_NUMBERS = ["", "00", "01", "-1", "+1", "1.0", "1_0", "x", "1x", "0x1", "1" + "0" * 40, FORTY + "9", "0" * 40, "1:",
              ":"]
PAPERS = ["one", "all", "balls", "waves 1: 1 1 1 1", "waves 1: 1 0 0 0", "waves 4: 1 0 0 0", "waves 2: 2 1 0 0",
          "waves 1: 1", "waves 0: -", "nearer of all", "cut of balls", "shorter of one", "longer of balls",
          "cut of shorter of waves 1: 1 0", "nearer of " * 11 + "one", f"waves {'9' * 60}: {'9' * 60} 0 0 0"]
NO_PAPERS = ["", " one", "one ", "two", "One", "waves 03: 1", "waves 1:", "waves 1: 01", "cut of", "cut one", "-",
             "cut of " * 12 + "one", f"waves {'9' * 61}: 1", "one one", "waves 1: -1", "one of one"]


def said(*lines):
    """A desk that was told the lines."""
    desk = Desk()
    for line in lines:
        desk.say(line)
    return desk


def with_words(q, n, words):
    return said(f"signs {q} {n}", *[f"put {word}" for word in words])


class Desks(unittest.TestCase):
    def refused(self, kind, desk, line):
        before = self.seen(desk)
        with self.assertRaises(kind) as caught:
            desk.say(line)
        self.assertIs(type(caught.exception), kind, line)
        self.assertIsInstance(caught.exception, ApartError)
        self.assertIsInstance(caught.exception, ValueError)
        self.assertEqual(self.seen(desk), before, line)

    def seen(self, desk):
        """All that shows which signs, length and list a desk keeps."""
        return [desk.say(line) for line in ("list", "counts", "swells", "apart", "judge 1: all")]

    def answers(self, desk, line, answer):
        told = desk.say(line)
        self.assertIs(type(told), str)
        self.assertEqual(told, answer, line)


class First(Desks):
    def test_two_signs_length_four_and_no_words(self):
        desk = Desk()
        self.answers(desk, "list", "-")
        self.answers(desk, "apart", "none")
        self.answers(desk, "counts", "0 0 0 0 0")
        self.answers(desk, "swells", "0 0 0 0 0")
        self.answers(desk, "judge 1: all", "16")
        self.answers(desk, "put 0110", "ok")
        self.refused(NoLine, desk, "put 0120")
        self.refused(NoLine, desk, "put 011")

    def test_a_walk(self):
        desk = Desk()
        for line, answer in [("put 1111", "ok"), ("put 0000", "ok"), ("list", "0000 1111"), ("apart", "4"),
                             ("counts", "2 0 0 0 2"), ("swells", "4 0 24 0 4"), ("hear 0111", "1 1111"),
                             ("hear 0011", "2 0000 1111"), ("hear 0000", "0 0000"), ("fits 0011 2", "yes"),
                             ("fits 0011 3", "no"), ("fits 0000 1", "no"), ("most 4", "2 2"), ("judge 4: balls", "3"),
                             ("judge 5: one", "1"), ("judge 4: one", "none"), ("take 1111", "ok"), ("list", "0000"),
                             ("apart", "none"), ("signs 3 2", "ok"), ("list", "-"), ("put 12", "ok"), ("put 01", "ok"),
                             ("list", "01 12"), ("counts", "2 0 2"), ("judge 2: all", "9")]:
            self.answers(desk, line, answer)


class Signs(Desks):
    def test_all_sizes(self):
        desk = Desk()
        for q, n in SIZES:
            desk.say("signs 2 1")
            desk.say("put 1")
            self.answers(desk, f"signs {q} {n}", "ok")
            self.answers(desk, "list", "-")
            self.answers(desk, "counts", " ".join(["0"] * (n + 1)))
            self.answers(desk, "judge 1: all", str(q ** n))
            self.answers(desk, f"put {str(q - 1) * n}", "ok")
            self.refused(NoLine, desk, f"put {str(q) * n}")

    def test_the_same_signs_empty_the_list(self):
        desk = said("put 0000", "signs 2 4")
        self.answers(desk, "list", "-")

    def test_refused(self):
        desk = said("put 0101")
        for sizes in ("0 0", "0 1", "1 1", "4 1", "2 0", "2 9", "3 0", "3 6", "3 8", "5 5", f"{FORTY} 1", f"2 {FORTY}",
                      f"{FORTY} {FORTY}", "10 1", "2 10", "3 10", "20 4"):
            self.refused(NoSize, desk, f"signs {sizes}")
        self.answers(desk, "list", "0101")


class PutAndTake(Desks):
    def test_put_twice(self):
        for q, n in SIZES:
            desk = with_words(q, n, ["0" * n])
            self.refused(Near, desk, f"put {'0' * n}")
            self.answers(desk, "list", "0" * n)

    def test_near_words_are_put_all_the_same(self):
        desk = said("put 0000", "put 0001")
        self.answers(desk, "apart", "1")

    def test_take_of_a_word_that_is_not_there(self):
        desk = Desk()
        self.refused(NoWord, desk, "take 0000")
        desk.say("put 0001")
        self.refused(NoWord, desk, "take 0000")
        self.answers(desk, "take 0001", "ok")
        self.refused(NoWord, desk, "take 0001")
        self.answers(desk, "put 0001", "ok")
        self.answers(desk, "list", "0001")

    def test_all_words_put_and_taken(self):
        for q, n in SIZES:
            words = every_word(q, n)
            desk = with_words(q, n, words[::-1])
            self.answers(desk, "list", " ".join(words))
            for word in words[::2]:
                self.answers(desk, f"take {word}", "ok")
            self.answers(desk, "list", " ".join(words[1::2]))


class Asked(Desks):
    def test_list_apart_counts_and_swells(self):
        for q, n in SIZES:
            for many in (0, 1, 2, 5, 12):
                words = list(dict.fromkeys(spread_row(q, n, many, 3)))
                desk = with_words(q, n, words)
                self.answers(desk, "list", " ".join(sorted(words)) if words else "-")
                least = slow_apart(words)
                self.answers(desk, "apart", "none" if least is None else str(least))
                self.answers(desk, "counts", " ".join(str(number) for number in slow_counts(n, words)))
                self.answers(desk, "swells", " ".join(str(number) for number in slow_swells(q, n, words)))

    def test_hear(self):
        for q, n in SIZES:
            words = list(dict.fromkeys(spread_row(q, n, 5, 7)))
            desk = with_words(q, n, words)
            for word in every_word(q, n):
                gaps = {held: sum(a != b for a, b in zip(word, held)) for held in words}
                least = min(gaps.values())
                nearest = sorted(held for held in words if gaps[held] == least)
                self.answers(desk, f"hear {word}", " ".join([str(least)] + nearest))

    def test_hear_with_an_empty_list(self):
        for q, n in SIZES:
            self.refused(NoWord, with_words(q, n, []), f"hear {'0' * n}")
        self.refused(NoWord, said("put 0000", "take 0000"), "hear 0000")


class Fits(Desks):
    def test_by_the_definition(self):
        for q, n in [(2, 1), (2, 3), (2, 4), (3, 1), (3, 2), (3, 3)]:
            for many in (0, 1, 2, 4):
                words = list(dict.fromkeys(spread_row(q, n, many, 5)))
                desk = with_words(q, n, words)
                for word, d in product(every_word(q, n), range(1, n + 3)):
                    least = slow_apart(words + [word])
                    fits = word not in words and (least is None or least >= d)
                    self.answers(desk, f"fits {word} {d}", "yes" if fits else "no")
                self.answers(desk, "list", " ".join(sorted(words)) if words else "-")

    def test_the_words_of_the_list_must_be_apart_among_themselves(self):
        desk = said("put 0000", "put 0001")
        self.answers(desk, "fits 1110 2", "no")
        self.answers(desk, "fits 1110 1", "yes")

    def test_far_beyond_the_length(self):
        for far in ("5", "100", FORTY):
            self.answers(Desk(), f"fits 0000 {far}", "yes")
            self.answers(said("put 1111"), f"fits 0000 {far}", "no")
            self.answers(said("put 0000"), f"fits 0000 {far}", "no")

    def test_nought_is_refused_the_word_there_or_not(self):
        self.refused(NoSize, Desk(), "fits 0000 0")
        self.refused(NoSize, said("put 0000"), "fits 0000 0")
        self.refused(NoSize, said("put 0000"), "fits 0001 0")


class Tables(Desks):
    def test_most_and_why_at_every_place(self):
        desk = Desk()
        for q, n in SIZES + SIZES[::-1]:
            desk.say(f"signs {q} {n}")
            for d in range(1, n + 1):
                words, paper, number = TABLES[q][(n, d)]
                self.answers(desk, f"most {d}", f"{len(words)} {number}")
                self.answers(desk, f"why {d}", show_paper(paper))
                self.answers(desk, f"judge {d}: {desk.say(f'why {d}')}", str(number))

    def test_at_first(self):
        self.answers(Desk(), "most 1", "16 16")
        self.answers(Desk(), "most 3", "2 2")
        self.assertEqual(slow_paper(2, 4, 3, read_paper(Desk().say("why 3"))), 2)

    def test_refused_outside(self):
        for q, n in SIZES:
            desk = with_words(q, n, ["0" * n])
            for d in ("0", str(n + 1), "9", "20", FORTY):
                self.refused(NoSize, desk, f"most {d}")
                self.refused(NoSize, desk, f"why {d}")

    def test_behind_another_signs_line(self):
        desk = said("most 4", "signs 3 4")
        self.answers(desk, "most 3", "9 9")
        desk.say("signs 2 7")
        self.answers(desk, "most 3", "16 16")
        self.refused(NoSize, desk, "signs 3 7")
        self.answers(desk, "most 7", "2 2")
        desk.say("signs 2 3")
        self.refused(NoSize, desk, "why 7")

    def test_the_list_of_the_desk_does_not_matter(self):
        desk = said("put 0000", "put 0001")
        self.answers(desk, "most 2", "8 8")
        self.answers(desk, "list", "0000 0001")

    def test_the_table_of_each_q_is_reckoned_once(self):
        asked = []

        def counted(q):
            asked.append(q)
            return table(q)

        with mock.patch.object(desk_file, "table", counted):
            desk = Desk()
            for line in ("most 1", "why 1", "most 4", "signs 3 5", "most 5", "why 2", "signs 2 8", "most 8", "why 3",
                         "signs 3 1", "most 1", "signs 2 1", "why 1"):
                desk.say(line)
        self.assertEqual(asked, [2, 3])


class Judge(Desks):
    def test_papers_that_suit_and_that_do_not(self):
        for q, n in [(2, 4), (2, 1), (2, 8), (3, 1), (3, 4), (3, 5)]:
            desk = with_words(q, n, ["0" * n])
            seen = set()
            for d, text in product((1, 2, 3, 4, 5, 19, 20), PAPERS):
                number = slow_paper(q, n, d, read_paper(text))
                self.answers(desk, f"judge {d}: {text}", "none" if number is None else str(number))
                seen.add(number is None)
            self.assertEqual(seen, {True, False})

    def test_at_the_bounds(self):
        desk = Desk()
        for d in ("0", "21", "100", FORTY):
            for text in PAPERS:
                self.refused(NoSize, desk, f"judge {d}: {text}")
        self.answers(desk, "judge 1: all", "16")
        self.answers(desk, "judge 20: one", "1")
        self.answers(desk, "judge 20: all", "16")
        self.answers(desk, "judge 1: one", "none")

    def test_a_long_line(self):
        rows = " ".join(["1"] * 900)
        self.answers(Desk(), f"judge 3: waves 1: {rows}", "none")

    def test_how_it_is_written(self):
        desk = Desk()
        for line in ("judge", "judge ", "judge 3", "judge 3:", "judge 3: ", "judge 3 all", "judge 3 : all",
                     "judge 3:all", "judge  3: all", "judge 3:  all", "judge 3: all ", " judge 3: all",
                     "judge: 3 all", "judge: all",
                     "judge :3 all", "judge 3:: all", "judge 3; all", "judge all", "judge all: 3", "judge 3: all: 3",
                     "judge 3: all all", "Judge 3: all", "judge 3 all:", "judge : all"):
            self.refused(NoLine, desk, line)


class NoLines(Desks):
    def test_no_such_line(self):
        for desk in (Desk(), said("put 0000"), said("signs 3 4", "put 0000")):
            for line in ("", " ", "  ", " " * 2000, "~" * 2000, "lists", "LIST", "List", "put", "take", "hear", "fits",
                         "most", "why", "signs", "list ", " list", "list list", "list 1", "apart ", "apart 1", " apart",
                         "counts 2", "counts ", "swells x", "swells  ", "put ", "put  0001", "put 0001 ", " put 0001",
                         "put 0001 1", "put 0001 0010", "put 0001 0010 0100", "list 1 2 3", "signs 2 4 4 4",
                         "put: 0001", "put 0001:", "put 00:01", "take 0000 ", "take  0000",
                         "hear 0000 1", "hear  0000", "fits 0000", "fits 0000 ", "fits 0000  1", "fits 0000 1 ",
                         "fits 1 0000", "fits 0000 1 1", "fits", "fits 1", "most 1 1", "most  1", "most 1 ", "why 1 1",
                         "why one", "why  1", "signs 2", "signs 2 4 ", "signs  2 4", "signs 2  4", "signs 2 4 4",
                         "signs 24", "signs 2,4", "ok", "none", "quit", "help", "-", "0000", "put -", "put 000",
                         "put 00000", "put 000a", "put 0003", "put 000-", "take 000", "hear 00000", "fits 000 1",
                         "fits 0003 1", "list\\n", "signs two four", "most n", "put put", "say list", "table 2"):
                self.refused(NoLine, desk, line)

    def test_numbers_of_forty_and_forty_one_figures_and_noughts_ahead(self):
        desk = Desk()
        for number in ("1", "20", "1" + "0" * 39, FORTY):
            self.answers(desk, f"fits 0000 {number}", "yes")
        for number in ("0", "1" + "0" * 39, FORTY):
            for line in (f"signs {number} 4", f"signs 2 {number}", f"most {number}", f"why {number}",
                         f"judge {number}: all"):
                self.refused(NoSize, desk, line)
        for number in NO_NUMBERS:
            for line in (f"signs {number} 4", f"signs 2 {number}", f"fits 0000 {number}", f"most {number}",
                         f"why {number}", f"judge {number}: all"):
                self.refused(NoLine, desk, line)

    def test_ahead_of_a_size(self):
        desk = said("put 0000")
        for number in NO_NUMBERS:
            for line in (f"signs 9 {number}", f"signs {number} 9", f"signs 0 {number}", f"signs {number} 0"):
                self.refused(NoLine, desk, line)
        for line in ("fits 000 0", "fits 0002 0", "fits 0000 0 0", "most 0 0", "why 9 ", "most 00", "why 05",
                     "signs 9 9 9", "signs 0", "signs 02 9"):
            self.refused(NoLine, desk, line)

    def test_ahead_of_a_word_that_is_there_or_is_not(self):
        desk = Desk()
        for line in ("hear 000", "hear 0002", "hear 0000 ", "take 000", "take 0002", "take 0000 0000"):
            self.refused(NoLine, desk, line)
        desk.say("put 0000")
        for line in ("put 0000 ", "put 0000 0000", "put  0000"):
            self.refused(NoLine, desk, line)

    def test_papers(self):
        for desk in (Desk(), said("signs 3 2")):
            for text in NO_PAPERS:
                for number in ("0", "1", "20", "21", FORTY):
                    self.refused(NoLine, desk, f"judge {number}: {text}")
        for number in NO_NUMBERS:
            for text in PAPERS + NO_PAPERS:
                self.refused(NoLine, Desk(), f"judge {number}: {text}")

    def test_words_of_the_signs_and_length_told_last(self):
        desk = said("signs 3 2")
        self.refused(NoLine, desk, "put 0000")
        self.answers(desk, "put 22", "ok")
        desk.say("signs 2 2")
        self.refused(NoLine, desk, "put 22")
        self.refused(NoLine, desk, "hear 22")
        self.refused(NoLine, desk, "take 22")
        self.refused(NoLine, desk, "fits 22 0")


class SideBySide(Desks):
    def test_two_desks_each_with_its_own_list(self):
        one, other = Desk(), Desk()
        one.say("put 0000")
        self.answers(other, "list", "-")
        other.say("signs 3 2")
        other.say("put 21")
        self.answers(one, "list", "0000")
        self.answers(other, "list", "21")
        self.answers(one, "most 4", "2 2")
        self.answers(other, "most 2", "3 3")
        one.say("take 0000")
        self.answers(other, "list", "21")
        self.answers(one, "list", "-")
        self.answers(one, "judge 1: all", "16")

    def test_told_again_the_same(self):
        lines = ["put 0011", "list", "why 2", "most 3", "hear 1111", "swells", "signs 3 5", "why 3", "why 4", "most 3"]
        first, second = Desk(), Desk()
        self.assertEqual([first.say(line) for line in lines], [second.say(line) for line in lines])


if __name__ == "__main__":
    unittest.main()
