import unittest
from itertools import combinations, product

from helper import (SIZES, SMALL_SIZES, differing, every_word, is_rising, is_whole, is_word, is_words, slow_apart,
                    slow_counts, some_lists)
from wordsapart.words import all_words, apart, counts, distance, keeps, plus, taken, weight


def wide_list():
    """2,000 words of sixteen places, any two at least 4 apart and some just so: values of polynomials."""
    points = list(product((0, 1), repeat=4))
    terms = [some for size in (0, 1, 2) for some in combinations(range(4), size)]
    rows = [[int(all(point[at] for at in term)) for point in points] for term in terms]
    words = []
    for chosen in product((0, 1), repeat=len(rows)):
        sums = [sum(use * row[at] for use, row in zip(chosen, rows)) for at in range(16)]
        words.append("".join(str(value % 2) for value in sums))
    return words[-2000:]


class AllWords(unittest.TestCase):
    def test_all_words_of_every_size_rising(self):
        for q, n in SIZES:
            told = all_words(q, n)
            self.assertTrue(is_words(q, n, told))
            self.assertTrue(is_rising(told))
            self.assertEqual(len(told), q ** n)
            self.assertEqual(told, every_word(q, n))

    def test_written_out(self):
        self.assertEqual(all_words(2, 1), ["0", "1"])
        self.assertEqual(all_words(3, 1), ["0", "1", "2"])
        self.assertEqual(all_words(2, 2), ["00", "01", "10", "11"])
        self.assertEqual(all_words(3, 2), ["00", "01", "02", "10", "11", "12", "20", "21", "22"])

    def test_the_told_list_is_the_askers_own(self):
        for q, n in SIZES:
            told = all_words(q, n)
            told.reverse()
            told.append("spoilt")
            self.assertEqual(all_words(q, n), every_word(q, n))


class Distances(unittest.TestCase):
    def test_distance_of_each_two_words(self):
        for q, n in SMALL_SIZES:
            for one in every_word(q, n):
                for other in every_word(q, n):
                    told = distance(one, other)
                    self.assertTrue(is_whole(told))
                    self.assertEqual(told, differing(one, other))

    def test_distance_written_out(self):
        self.assertEqual(distance("0", "0"), 0)
        self.assertEqual(distance("00000000", "11111111"), 8)
        self.assertEqual(distance("01010101", "01110101"), 1)
        self.assertEqual(distance("01201", "02102"), 3)
        self.assertEqual(distance("00000", "21212"), 5)
        self.assertEqual(distance("0201", "0102"), 2)

    def test_weight_of_each_word(self):
        for q, n in SIZES:
            for word in every_word(q, n):
                told = weight(word)
                self.assertTrue(is_whole(told))
                self.assertEqual(told, differing(word, "0" * n))

    def test_weight_written_out(self):
        self.assertEqual(weight("0"), 0)
        self.assertEqual(weight("2"), 1)
        self.assertEqual(weight("01202"), 3)
        self.assertEqual(weight("11111111"), 8)


class LeastDistances(unittest.TestCase):
    def test_of_fewer_than_two_words_it_is_none(self):
        self.assertIsNone(apart([]))
        for word in ("0", "1", "2", "01202", "11111111", "0" * 16, "2" * 16):
            self.assertIsNone(apart([word]))

    def test_of_lists_of_every_size(self):
        for q, n in SIZES:
            for words in some_lists(q, n):
                told = apart(words)
                self.assertTrue(told is None or is_whole(told))
                self.assertEqual(told, slow_apart(words))

    def test_written_out(self):
        self.assertEqual(apart(["0", "1"]), 1)
        self.assertEqual(apart(["11111111", "00000000"]), 8)
        self.assertEqual(apart(["000", "011", "101", "110"]), 2)
        self.assertEqual(apart(["0000", "0111", "0222", "1012", "1120", "1201", "2021", "2102", "2210"]), 3)
        self.assertEqual(apart(["00000", "22222", "11111", "11112"]), 1)

    def test_the_nearest_two_may_stand_anywhere(self):
        far = ["00000", "11111", "22222"]
        for at in range(4):
            self.assertEqual(apart(far[:at] + ["22220"] + far[at:]), 1)
            self.assertEqual(apart(far[:at] + ["20000"] + far[at:]), 1)
            self.assertEqual(apart(far[:at] + ["00111"] + far[at:]), 2)

    def test_keeps_at_distances_from_one_to_beyond_the_length(self):
        for q, n in SIZES:
            for words in some_lists(q, n):
                least = slow_apart(words)
                for d in range(1, n + 4):
                    told = keeps(words, d)
                    self.assertIs(type(told), bool)
                    self.assertEqual(told, least is None or least >= d)

    def test_keeps_of_fewer_than_two_words_is_true(self):
        for d in (1, 2, 5, 9, 20, 1000):
            self.assertIs(keeps([], d), True)
            self.assertIs(keeps(["0"], d), True)
            self.assertIs(keeps(["2" * 16], d), True)

    def test_keeps_written_out(self):
        words = ["000", "011", "101", "110"]
        self.assertIs(keeps(words, 1), True)
        self.assertIs(keeps(words, 2), True)
        self.assertIs(keeps(words, 3), False)
        self.assertIs(keeps(words, 4), False)

    def test_two_thousand_words_of_sixteen_places_with_two_signs(self):
        words = wide_list()
        self.assertEqual(len(set(words)), 2000)
        self.assertEqual({len(word) for word in words}, {16})
        self.assertEqual(apart(words), 4)
        self.assertIs(keeps(words, 4), True)
        self.assertIs(keeps(words, 5), False)
        spoilt = words[:-1] + [words[0][:15] + str(1 - int(words[0][15]))]
        self.assertEqual(apart(spoilt), 1)
        self.assertIs(keeps(spoilt, 2), False)

    def test_two_thousand_words_of_sixteen_places_with_three_signs(self):
        words = [word + word + "21" for word in every_word(3, 7)][:2000]
        self.assertEqual(apart(words), 2)
        self.assertIs(keeps(words, 2), True)
        self.assertIs(keeps(words, 3), False)

    def test_two_words_of_sixteen_places(self):
        self.assertEqual(apart(["0" * 16, "2" * 16]), 16)
        self.assertEqual(apart(["0" * 16, "0" * 15 + "1"]), 1)
        self.assertEqual(apart(["2" + "0" * 15, "1" + "0" * 15]), 1)
        self.assertIs(keeps(["0" * 16, "1" * 16], 16), True)
        self.assertIs(keeps(["0" * 16, "1" * 16], 17), False)


class Counts(unittest.TestCase):
    def test_counts_of_lists_of_every_size(self):
        for q, n in SIZES:
            for words in some_lists(q, n):
                told = counts(n, words)
                self.assertIs(type(told), list)
                self.assertEqual(len(told), n + 1)
                self.assertTrue(all(is_whole(many) for many in told))
                self.assertEqual(told, slow_counts(n, words))
                self.assertEqual(told[0], len(words))
                self.assertEqual(sum(told), len(words) ** 2)

    def test_written_out(self):
        self.assertEqual(counts(1, []), [0, 0])
        self.assertEqual(counts(8, []), [0] * 9)
        self.assertEqual(counts(5, ["01202"]), [1, 0, 0, 0, 0, 0])
        self.assertEqual(counts(3, ["000", "111"]), [2, 0, 0, 2])
        self.assertEqual(counts(3, ["110", "000", "011", "101"]), [4, 0, 12, 0])
        self.assertEqual(counts(2, ["00", "12", "10"]), [3, 4, 2])
        self.assertEqual(counts(8, every_word(2, 8)), [256, 2048, 7168, 14336, 17920, 14336, 7168, 2048, 256])

    def test_the_told_list_is_the_askers_own(self):
        words = ["000", "111"]
        told = counts(3, words)
        told[0] = 99
        told.append(1)
        self.assertEqual(counts(3, words), [2, 0, 0, 2])


class Sums(unittest.TestCase):
    def test_plus_of_each_two_words(self):
        for q, n in SMALL_SIZES:
            for one in every_word(q, n):
                for other in every_word(q, n):
                    told = plus(q, one, other)
                    self.assertTrue(is_word(q, n, told))
                    self.assertEqual([int(sign) for sign in told], [(int(a) + int(b)) % q for a, b in zip(one, other)])

    def test_plus_at_the_greatest_lengths(self):
        self.assertEqual(plus(2, "01010101", "00110011"), "01100110")
        self.assertEqual(plus(2, "11111111", "11111111"), "00000000")
        self.assertEqual(plus(3, "01201", "22222"), "20120")
        self.assertEqual(plus(3, "00000", "01212"), "01212")

    def test_plus_at_the_least_lengths(self):
        self.assertEqual([plus(2, "1", "0"), plus(2, "1", "1")], ["1", "0"])
        self.assertEqual([plus(3, "1", "1"), plus(3, "2", "1"), plus(3, "2", "2")], ["2", "0", "1"])

    def test_taken_is_the_word_added_so_often(self):
        for q, n in SIZES:
            for word in every_word(q, n):
                added = "0" * n
                for times in range(q):
                    told = taken(q, word, times)
                    self.assertTrue(is_word(q, n, told))
                    self.assertEqual(told, added)
                    added = "".join(str((int(a) + int(b)) % q) for a, b in zip(added, word))

    def test_taken_written_out(self):
        self.assertEqual([taken(2, "01101001", times) for times in (0, 1)], ["00000000", "01101001"])
        self.assertEqual([taken(3, "01220", times) for times in (0, 1, 2)], ["00000", "01220", "02110"])
        self.assertEqual([taken(3, "2", times) for times in (0, 1, 2)], ["0", "2", "1"])


class Beyond(unittest.TestCase):
    # What is told beyond the bounds is not promised, but is no error.
    def test_lengths_below_one_and_above_the_bounds(self):
        for q, n in product((2, 3), (-2, -1, 0, 6, 9)):
            words = all_words(q, n)[:20]
            self.assertIs(type(counts(n, words)), list)
            self.assertIs(type(counts(n, [])), list)
            apart(words)

    def test_distances_and_times_below_their_bounds_and_above(self):
        for number in (-3, -1, 0, 4, 9):
            self.assertIs(keeps([], number), True)
            self.assertIs(type(keeps(["0012", "0120", "0012"], number)), bool)
            self.assertEqual(len(taken(3, "0012", number)), 4)

    def test_fewer_and_more_signs(self):
        for q, n in product((0, 1, 4), (-1, 0, 1, 3)):
            self.assertIs(type(all_words(q, n)), list)
        self.assertIs(type(plus(1, "00", "00")), str)
        self.assertIs(type(plus(4, "33", "12")), str)


class Handed(unittest.TestCase):
    def test_the_handed_list_stays_as_it_was(self):
        for q, n in SIZES:
            for words in some_lists(q, n):
                kept = list(words)
                apart(words)
                keeps(words, 2)
                counts(n, words)
                self.assertEqual(words, kept)

    def test_a_list_changed_behind_changes_nothing_told(self):
        words = ["110", "000", "011", "101"]
        told = counts(3, words)
        words.append("111")
        words[0] = "001"
        self.assertEqual(told, [4, 0, 12, 0])

    def test_a_changed_list_is_reckoned_anew(self):
        words = ["000", "111"]
        self.assertEqual([apart(words), keeps(words, 3), counts(3, words)], [3, True, [2, 0, 0, 2]])
        words.append("110")
        self.assertEqual([apart(words), keeps(words, 3), counts(3, words)], [1, False, [3, 2, 2, 2]])

    def test_the_same_answer_each_time(self):
        for q, n in SMALL_SIZES:
            for words in some_lists(q, n):
                first = [all_words(q, n), apart(words), keeps(words, 2), counts(n, words)]
                again = [all_words(q, n), apart(words), keeps(words, 2), counts(n, words)]
                self.assertEqual(first, again)


if __name__ == "__main__":
    unittest.main()
