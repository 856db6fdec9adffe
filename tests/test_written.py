import unittest
from time import process_time

from helper import is_whole, slow_base, slow_paper, slow_span
from wordsapart.desk import Desk
from wordsapart.tables import met, reckoned, table, written_list
from wordsapart.texts import read_list, read_paper, show_paper
from wordsapart.words import LONGEST
from wordsapart.written import WRITTEN

MOST_SECONDS = 0.005


def seconds(ask, q):
    """What one asking takes on the average of many; of several rounds the quickest, as the machine may be busy."""
    rounds = []
    for again in range(5):
        begun = process_time()
        for asking in range(50):
            ask(q)
        rounds.append((process_time() - begun) / 50)
    return min(rounds)


class Rows(unittest.TestCase):
    def test_a_row_for_each_place_by_n_then_d(self):
        self.assertEqual(sorted(WRITTEN), sorted(LONGEST))
        for q, most in LONGEST.items():
            places = [(n, d) for n in range(1, most + 1) for d in range(1, n + 1)]
            self.assertEqual([(n, d) for n, d, words, paper, number in WRITTEN[q]], places)

    def test_papers_are_written_as_they_are_shown_and_tell_the_number(self):
        for q in WRITTEN:
            for n, d, words, paper, number in WRITTEN[q]:
                self.assertEqual(show_paper(read_paper(paper)), paper)
                self.assertTrue(is_whole(number))
                self.assertEqual(slow_paper(q, n, d, read_paper(paper)), number)

    def test_lists_are_written_by_bases_or_as_all_words(self):
        for q in WRITTEN:
            for n, d, words, paper, number in WRITTEN[q]:
                if words == "all":
                    self.assertEqual((d, len(written_list(q, n, words))), (1, q ** n))
                else:
                    based = read_list(q, n, words)
                    self.assertEqual(slow_base(q, n, based), based)
                    self.assertEqual(written_list(q, n, words), slow_span(q, n, based))


class Same(unittest.TestCase):
    def test_the_table_is_what_is_reckoned(self):
        for q in WRITTEN:
            told = reckoned(q)
            self.assertEqual(table(q), told)
            self.assertEqual(list(table(q)), list(told))
            # Rows that are tuples, or numbers that are truths, would look otherwise.
            self.assertEqual(repr(table(q)), repr(told))

    def test_met_are_the_places_where_what_is_reckoned_meets(self):
        for q in WRITTEN:
            self.assertEqual(met(q), [at for at, (words, paper, number) in reckoned(q).items() if len(words) == number])

    def test_a_desk_tells_what_is_reckoned_whatever_became_of_told_tables(self):
        for q in WRITTEN:
            for words, paper, number in table(q).values():
                words.clear()
                if paper[0] == "waves":
                    paper[2].clear()
            desk = Desk()
            for (n, d), (words, paper, number) in reckoned(q).items():
                desk.say(f"signs {q} {n}")
                self.assertEqual(desk.say(f"most {d}"), f"{len(words)} {number}")
                self.assertEqual(desk.say(f"why {d}"), show_paper(paper))


class Quick(unittest.TestCase):
    def test_table_and_met_take_five_milliseconds_at_most(self):
        for ask in (table, met):
            for q in WRITTEN:
                self.assertLessEqual(seconds(ask, q), MOST_SECONDS, (ask.__name__, q))


if __name__ == "__main__":
    unittest.main()
