import unittest
from itertools import product
from math import comb

from helper import (SIZES, differing, every_word, far_list, is_whole, is_whole_list, slow_product, slow_swells,
                    slow_wave, some_lists, spread_row)
from wordsapart.spans import checked, span
from wordsapart.waves import swells, wave, ways
from wordsapart.words import weight


def times_row(row, factor):
    """The product of two polynomials, by their coefficients."""
    told = [0] * (len(row) + len(factor) - 1)
    for at, one in enumerate(row):
        for by, other in enumerate(factor):
            told[at + by] += one * other
    return told


def wave_row(q, n, i):
    """The wave numbers at i for all k, as the coefficients of (1 - z) ** i * (1 + (q - 1) * z) ** (n - i)."""
    row = [1]
    for place in range(n):
        row = times_row(row, [1, -1] if place < i else [1, q - 1])
    return row


def square_swell(q, words, others):
    """The sum of squares of [13] over the others."""
    total = 0
    for other in others:
        products = [slow_product(q, word, other) for word in words]
        a, b, c = [products.count(rest) for rest in range(3)]
        total += (a - b) ** 2 if q == 2 else a * a + b * b + c * c - a * b - b * c - a * c
    return total


class Ways(unittest.TestCase):
    def test_of_small_numbers(self):
        for many in range(25):
            for some in range(many + 1):
                told = ways(many, some)
                self.assertTrue(is_whole(told))
                self.assertEqual(told, comb(many, some))

    def test_below_nought_and_above_many_there_are_none(self):
        for many in (0, 1, 2, 7, 8, 3000):
            for some in (-1000, -2, -1, many + 1, many + 2, many + 1000):
                told = ways(many, some)
                self.assertTrue(is_whole(told))
                self.assertEqual(told, 0)

    def test_of_nothing_and_of_all_there_is_one(self):
        for many in (0, 1, 2, 8, 3000, 9999):
            self.assertEqual(ways(many, 0), 1)
            self.assertEqual(ways(many, many), 1)

    def test_of_thousands(self):
        for many, some in ((2000, 1000), (3000, 2), (3000, 2998), (5000, 1700), (4001, 2001), (7000, 6999)):
            self.assertEqual(ways(many, some), comb(many, some))
            self.assertEqual(ways(many, some), ways(many - 1, some - 1) + ways(many - 1, some))


class Wave(unittest.TestCase):
    def test_by_its_definition(self):
        for q, n in SIZES:
            for k in range(n + 1):
                for i in range(n + 1):
                    told = wave(q, n, k, i)
                    self.assertTrue(is_whole(told))
                    self.assertEqual(told, slow_wave(q, n, k, i))

    def test_as_coefficients(self):
        for q, n in SIZES + [(2, 20), (3, 20)]:
            for i in range(n + 1):
                self.assertEqual([wave(q, n, k, i) for k in range(n + 1)], wave_row(q, n, i))

    def test_at_nought_the_number_of_words_of_the_weight(self):
        for q, n in SIZES:
            for k in range(n + 1):
                many = len([word for word in every_word(q, n) if differing(word, "0" * n) == k])
                self.assertEqual(wave(q, n, k, 0), many)

    def test_written_out(self):
        self.assertEqual([wave(2, 1, k, i) for k in (0, 1) for i in (0, 1)], [1, 1, 1, -1])
        self.assertEqual([wave(3, 1, k, i) for k in (0, 1) for i in (0, 1)], [1, 1, 2, -1])
        self.assertEqual([wave(2, 4, 2, i) for i in range(5)], [6, 0, -2, 0, 6])
        self.assertEqual([wave(3, 3, 2, i) for i in range(4)], [12, 0, -3, 3])
        self.assertEqual([wave(2, 8, 8, i) for i in range(9)], [1, -1, 1, -1, 1, -1, 1, -1, 1])
        self.assertEqual([wave(3, 5, 5, i) for i in range(6)], [32, -16, 8, -4, 2, -1])
        self.assertEqual([wave(3, 5, 0, i) for i in range(6)], [1] * 6)


class Swells(unittest.TestCase):
    def lists(self, q, n):
        return some_lists(q, n) + [far_list(q, n, d, 1) for d in range(2, n + 1)]

    def test_by_their_definition_and_not_below_nought(self):
        for q, n in SIZES:
            for words in self.lists(q, n):
                told = swells(q, n, words)
                self.assertTrue(is_whole_list(told))
                self.assertEqual(len(told), n + 1)
                self.assertEqual(told, slow_swells(q, n, words))
                self.assertGreaterEqual(min(told), 0)
                self.assertEqual(told[0], len(words) ** 2)

    def test_by_the_squares(self):
        for q, n in SIZES:
            for words in self.lists(q, n)[:-1] if n > 6 or q == 3 and n > 4 else self.lists(q, n):
                told = swells(q, n, words)
                for k in {0, 1, n // 2, n}:
                    heavy = [word for word in every_word(q, n) if weight(word) == k]
                    self.assertEqual(told[k], square_swell(q, words, heavy))

    def test_of_spans_by_their_checked_words(self):
        for q, n in SIZES:
            for many in range(n + 1):
                row = spread_row(q, n, many, 7)
                words, others = span(q, n, row), checked(q, n, row)
                weights = [weight(other) for other in others]
                expected = [len(words) ** 2 * weights.count(k) for k in range(n + 1)]
                self.assertEqual(swells(q, n, words), expected)

    def test_of_no_words_one_word_and_all_words(self):
        for q, n in SIZES:
            self.assertEqual(swells(q, n, []), [0] * (n + 1))
            self.assertEqual(swells(q, n, ["1" * n]), [wave(q, n, k, 0) for k in range(n + 1)])
            self.assertEqual(swells(q, n, every_word(q, n)), [q ** (2 * n)] + [0] * n)

    def test_written_out(self):
        self.assertEqual(swells(2, 3, ["111", "000"]), [4, 0, 12, 0])
        self.assertEqual(swells(2, 3, ["000", "001"]), [4, 8, 4, 0])
        self.assertEqual(swells(3, 2, ["00", "12"]), [4, 4, 10])
        self.assertEqual(swells(3, 1, ["0", "1"]), [4, 2])


class Beyond(unittest.TestCase):
    # What is told beyond the bounds is not promised, but is no error.
    def test_wave_of_any_numbers(self):
        for q, n, k, i in product((0, 1, 2, 3, 4), (-2, -1, 0, 1, 4, 10), (-2, -1, 0, 1, 5, 11), (-2, -1, 0, 1, 5, 11)):
            self.assertTrue(is_whole(wave(q, n, k, i)))

    def test_swells_at_lengths_below_one_and_above_the_bounds(self):
        for q, n in product((1, 2, 3, 4), (-2, -1, 0, 6, 9)):
            for words in ([], ["0" * n]):
                self.assertTrue(is_whole_list(swells(q, n, words)))


class Handed(unittest.TestCase):
    def test_the_handed_list_stays_as_it_was(self):
        words = ["110", "000", "011"]
        swells(2, 3, words)
        self.assertEqual(words, ["110", "000", "011"])

    def test_the_told_list_is_the_askers_own(self):
        words = ["111", "000"]
        told = swells(2, 3, words)
        told[0] = 99
        told.append(1)
        self.assertEqual(swells(2, 3, words), [4, 0, 12, 0])

    def test_a_list_changed_behind_changes_nothing_told(self):
        words = ["111", "000"]
        told = swells(2, 3, words)
        words[0] = "001"
        self.assertEqual(told, [4, 0, 12, 0])
        self.assertEqual(swells(2, 3, words), [4, 8, 4, 0])

    def test_the_other_count_of_signs_between_changes_nothing(self):
        words = ["111", "000"]
        first = swells(2, 3, words)
        self.assertNotEqual(swells(3, 3, words), first)
        self.assertEqual(swells(2, 3, words), first)


if __name__ == "__main__":
    unittest.main()
