import unittest
from copy import deepcopy
from itertools import product

from helper import differing, every_word, is_paper, is_rising, is_whole, is_words, largest, rows_within, slow_paper
from wordsapart import tables
from wordsapart.makings import shorter
from wordsapart.papers import paper_tells
from wordsapart.picks import in_order
from wordsapart.tables import met, table
from wordsapart.texts import read_paper, show_paper
from wordsapart.weights import least_weights, weights_tell

LONGEST = {2: 8, 3: 5}
PLACES = {q: [(n, d) for n in range(1, LONGEST[q] + 1) for d in range(1, n + 1)] for q in (2, 3)}
TOLD = {q: table(q) for q in (2, 3)}


def least_of_one(q, n, d, lists):
    """How many words the list at (n, d) must have for the lists at single places, clause by clause."""
    told = {}
    if (n, d + 1) in lists:
        told["as it is"] = len(lists[(n, d + 1)])
    if (n + 1, d + 1) in lists:
        told["cut"] = len(lists[(n + 1, d + 1)])
    if (n + 1, d) in lists:
        told["shorter"] = len(shorter(q, lists[(n + 1, d)]))
    if (n - 1, d - 1) in lists and ((q == 2 and d % 2 == 0) or (q == 3 and d == 2)):
        told["longer"] = len(lists[(n - 1, d - 1)])
    return told


def least_of_two(q, n, d, lists):
    """Likewise for each two places, which may be one."""
    told = {}
    for (n1, d1), (n2, d2) in product(lists, repeat=2):
        one, other = len(lists[(n1, d1)]), len(lists[(n2, d2)])
        if n1 + n2 == n and d1 + d2 == d:
            told["beside", n1, d1, n2, d2] = min(one, other)
        if n1 + n2 == n and min(d1, d2) == d:
            told["pairs", n1, d1, n2, d2] = one * other
        if 2 * n1 == n and 2 * n2 == n and min(2 * d1, d2) == d:
            told["sums", n1, d1, n2, d2] = one * other
    return told


def clause_numbers(q, n, d, numbers):
    """The numbers that the number at (n, d) must not pass for other places, clause by clause."""
    told = []
    if (n, d - 1) in numbers:
        told.append(numbers[(n, d - 1)])
    if (n - 1, d - 1) in numbers:
        told.append(numbers[(n - 1, d - 1)])
    if (n - 1, d) in numbers:
        told.append(q * numbers[(n - 1, d)])
    if d == n and n >= 2:
        told.append(q)
    if q == 2 and d % 2 == 1 and (n + 1, d + 1) in numbers:
        told.append(numbers[(n + 1, d + 1)])
    return told


def lists_in(told):
    """All lists that stand in a told table."""
    return [words for words, paper, number in told.values()] + [
        rows for words, paper, number in told.values() for rows in rows_within(paper)]


class Told(unittest.TestCase):
    def test_all_places_by_n_then_d(self):
        for q in (2, 3):
            self.assertIs(type(TOLD[q]), dict)
            self.assertEqual(list(TOLD[q]), PLACES[q])
            for place in TOLD[q]:
                self.assertIs(type(place), tuple)
                self.assertTrue(is_whole(place[0]) and is_whole(place[1]))
        self.assertEqual((len(TOLD[2]), len(TOLD[3])), (36, 15))

    def test_kinds(self):
        for q in (2, 3):
            for (n, d), told in TOLD[q].items():
                self.assertIs(type(told), tuple)
                words, paper, number = told
                self.assertTrue(is_words(q, n, words), (q, n, d))
                self.assertTrue(is_paper(paper), (q, n, d))
                self.assertTrue(is_whole(number), (q, n, d))

    def test_each_list_is_rising_and_keeps_apart(self):
        for q in (2, 3):
            for (n, d), (words, paper, number) in TOLD[q].items():
                self.assertTrue(is_rising(words))
                self.assertTrue(all(differing(one, other) >= d for one in words for other in words if one < other))

    def test_each_number_is_what_its_paper_tells_and_no_fewer_than_the_words(self):
        for q in (2, 3):
            for (n, d), (words, paper, number) in TOLD[q].items():
                self.assertEqual(number, slow_paper(q, n, d, paper))
                self.assertEqual(number, paper_tells(q, n, d, paper))
                self.assertGreaterEqual(number, len(words))
                self.assertGreaterEqual(len(words), 1)

    def test_no_list_whatever_has_more_words(self):
        for q, lengths in ((2, (1, 2, 3, 4)), (3, (1, 2))):
            for n in lengths:
                for d in range(1, n + 1):
                    words, paper, number = TOLD[q][(n, d)]
                    most = largest(every_word(q, n), d)
                    self.assertTrue(len(words) <= most <= number)

    def test_papers_can_be_written_and_have_numbers_of_sixty_figures_at_most(self):
        for q in (2, 3):
            for words, paper, number in TOLD[q].values():
                self.assertEqual(read_paper(show_paper(paper)), paper)

    def test_written_out(self):
        numbers = {(2, 1, 1): (2, 2), (2, 7, 3): (16, 16), (2, 7, 4): (8, 8), (2, 8, 4): (16, 16),
                   (2, 8, 1): (256, 256), (2, 8, 8): (2, 2), (3, 1, 1): (3, 3), (3, 4, 3): (9, 9),
                   (3, 5, 1): (243, 243), (3, 5, 2): (81, 81)}
        for (q, n, d), expected in numbers.items():
            words, paper, number = TOLD[q][(n, d)]
            self.assertEqual((len(words), number), expected, (q, n, d))
        self.assertEqual(TOLD[2][(1, 1)][0], ["0", "1"])


class ShutLists(unittest.TestCase):
    def test_no_fewer_than_taken_in_order(self):
        for q in (2, 3):
            for (n, d), (words, paper, number) in TOLD[q].items():
                self.assertGreaterEqual(len(words), len(in_order(q, n, d)))

    def check_shut(self, q, lists):
        for n, d in lists:
            asked = {**least_of_one(q, n, d, lists), **least_of_two(q, n, d, lists)}
            for clause, many in asked.items():
                self.assertGreaterEqual(len(lists[(n, d)]), many, (q, n, d, clause))

    def test_each_clause_at_every_place(self):
        for q in (2, 3):
            self.check_shut(q, {place: TOLD[q][place][0] for place in TOLD[q]})

    def test_each_clause_is_asked_somewhere(self):
        for q in (2, 3):
            lists = {place: TOLD[q][place][0] for place in TOLD[q]}
            one = {clause for n, d in lists for clause in least_of_one(q, n, d, lists)}
            two = {clause[0] for n, d in lists for clause in least_of_two(q, n, d, lists)}
            self.assertEqual(one, {"as it is", "cut", "shorter", "longer"})
            self.assertEqual(two, {"beside", "pairs", "sums"})

    def test_each_clause_has_a_list_of_its_own(self):
        for q in (2, 3):
            for seed in PLACES[q]:
                lists = {(n, d): ["0" * n] for n, d in PLACES[q]}
                lists[seed] = in_order(q, seed[0], seed[1])
                for n, d in PLACES[q]:
                    made = tables.made_of_one(q, n, d, lists)
                    self.assertEqual([len(words) for words in made], list(least_of_one(q, n, d, lists).values()))
                    many = [len(words) for words in tables.made_of_two(q, n, d, lists)]
                    for (name, n1, d1, n2, d2), asked in least_of_two(q, n, d, lists).items():
                        # Lists for greater distances are no longer once the table is shut: the least ones are enough.
                        if name == "beside" or d2 == d and d1 == (d if name == "pairs" else (d + 1) // 2):
                            self.assertIn(asked, many)

    def test_shut_from_weak_beginnings_too(self):
        # All lists have one word but that of one place, so that one making or another is needed everywhere else.
        for q in (2, 3):
            for seed in PLACES[q]:
                lists = {(n, d): ["0" * n] for n, d in PLACES[q]}
                lists[seed] = in_order(q, seed[0], seed[1])
                while tables.lengthen(q, lists):
                    pass
                self.check_shut(q, lists)
                for (n, d), words in lists.items():
                    self.assertTrue(is_words(q, n, words) and len(set(words)) == len(words))
                    self.assertTrue(all(differing(a, b) >= d for a in words for b in words if a < b), (q, n, d, seed))


class ShutNumbers(unittest.TestCase):
    def check_shut(self, q, numbers):
        for n, d in numbers:
            for bound in clause_numbers(q, n, d, numbers):
                self.assertLessEqual(numbers[(n, d)], bound, (q, n, d))

    def test_no_greater_than_all_balls_and_weights(self):
        for q in (2, 3):
            for (n, d), (words, paper, number) in TOLD[q].items():
                self.assertLessEqual(number, q ** n)
                self.assertLessEqual(number, slow_paper(q, n, d, ("balls",)))
                value, weights, shares = least_weights(q, n, d)
                self.assertEqual(weights_tell(q, n, weights), value)
                self.assertLessEqual(number * value[1], value[0])

    def test_each_clause_at_every_place(self):
        for q in (2, 3):
            self.check_shut(q, {place: TOLD[q][place][2] for place in TOLD[q]})
            for n in range(2, LONGEST[q] + 1):
                self.assertEqual(TOLD[q][(n, n)][2], q)

    def test_shut_from_weak_beginnings_too(self):
        for q in (2, 3):
            for seed in PLACES[q]:
                papers = {place: ("all",) for place in PLACES[q]}
                papers[seed] = TOLD[q][seed][1]
                while tables.lessen(q, papers):
                    pass
                numbers = {(n, d): slow_paper(q, n, d, papers[(n, d)]) for n, d in papers}
                self.assertTrue(all(is_whole(number) for number in numbers.values()))
                self.check_shut(q, numbers)

    def test_each_clause_has_a_paper_of_its_own(self):
        for q in (2, 3):
            papers = {place: TOLD[q][place][1] for place in TOLD[q]}
            numbers = {place: TOLD[q][place][2] for place in TOLD[q]}
            for n, d in papers:
                led = tables.papers_led_back(q, n, d, papers)
                self.assertEqual([slow_paper(q, n, d, paper) for paper in led], clause_numbers(q, n, d, numbers))


class Own(unittest.TestCase):
    def test_no_list_stands_at_two_places(self):
        for q in (2, 3):
            lists = lists_in(table(q))
            self.assertEqual(len({id(each) for each in lists}), len(lists))

    def test_papers_within_papers_have_rows_of_their_own(self):
        rows = [1, 0, 0]
        for paper in (("waves", 1, rows), ("cut", ("waves", 1, rows)), ("cut", ("shorter", ("waves", 1, rows)))):
            own = tables.own_paper(paper)
            self.assertEqual(own, paper)
            self.assertIsNot(rows_within(own)[0], rows)
        for paper in (("one",), ("nearer", ("balls",))):
            self.assertEqual(tables.own_paper(paper), paper)

    def test_two_tables_have_no_list_in_common(self):
        for q in (2, 3):
            first, second = table(q), table(q)
            self.assertEqual(first, second)
            self.assertIsNot(first, second)
            own = {id(each) for each in lists_in(first)}
            self.assertFalse(any(id(each) in own for each in lists_in(second)))

    def test_a_changed_table_changes_none_that_is_told_later(self):
        for q in (2, 3):
            told = table(q)
            before = deepcopy(told)
            for each in lists_in(told):
                each.reverse()
                each.append(each[0])
            del told[(1, 1)]
            told[(9, 9)] = ([], ("one",), 1)
            self.assertEqual(table(q), before)
            self.assertEqual(list(table(q)), list(before))

    def test_the_table_of_the_other_signs_stays(self):
        before = deepcopy(TOLD)
        self.assertEqual({3: table(3), 2: table(2)}, before)


class Beyond(unittest.TestCase):
    # What is told of other numbers of signs is not promised, but is no error.
    def test_fewer_and_more_signs(self):
        for q in (-1, 0, 1, 4, 5):
            self.assertIs(type(table(q)), dict)
            self.assertIs(type(met(q)), list)


class Met(unittest.TestCase):
    def test_each_place_where_list_and_number_have_as_many_in_order(self):
        for q in (2, 3):
            told = met(q)
            self.assertIs(type(told), list)
            self.assertEqual(told, [place for place in PLACES[q] if len(TOLD[q][place][0]) == TOLD[q][place][2]])
            for place in told:
                self.assertIs(type(place), tuple)
                self.assertTrue(len(place) == 2 and is_whole(place[0]) and is_whole(place[1]))

    def test_places_that_must_be_among_them(self):
        # All words, words with even sums, and the words of one sign alone meet what their papers tell.
        for q in (2, 3):
            for n in range(1, LONGEST[q] + 1):
                self.assertIn((n, 1), met(q))
                self.assertIn((n, n), met(q))
        for place in ((7, 3), (7, 4), (8, 4), (8, 2)):
            self.assertIn(place, met(2))
        for place in ((4, 3), (5, 2)):
            self.assertIn(place, met(3))

    def test_a_place_that_is_not_among_them(self):
        words, paper, number = TOLD[2][(8, 3)]
        self.assertLess(len(words), number)
        self.assertNotIn((8, 3), met(2))

    def test_there_the_list_is_a_largest_one(self):
        for q, most in ((2, 4), (3, 2)):
            for n, d in [place for place in met(q) if place[0] <= most]:
                self.assertEqual(len(TOLD[q][(n, d)][0]), largest(every_word(q, n), d))

    def test_told_again_the_same_though_it_was_changed(self):
        for q in (2, 3):
            told = met(q)
            before = list(told)
            told.reverse()
            told.append((0, 0))
            self.assertEqual(met(q), before)


if __name__ == "__main__":
    unittest.main()
