import unittest
from fractions import Fraction
from itertools import product

from helper import (SIZES, every_word, far_list, is_fraction, is_whole, is_whole_list, slow_apart, slow_counts,
                    slow_level, slow_right, slow_swells, slow_wave, spread_row)
from wordsapart.picks import in_order
from wordsapart.spans import checked, span
from wordsapart.weights import equality, least_weights, weights_right, weights_tell

PLACES = [(q, n, d) for q, n in SIZES for d in range(1, n + 1)]
SMALL_PLACES = [(q, n, d) for q, n, d in PLACES if n <= 3]
BIG = 10 ** 45 + 7


def slow_tell(q, n, weights):
    return Fraction(slow_level(q, n, weights, 0), weights[0])


def slow_equality(q, n, d, words, weights):
    rises, many = slow_swells(q, n, words), slow_counts(n, words)
    meets = len(words) == slow_tell(q, n, weights)
    first = [k for k in range(1, n + 1) if weights[1][k - 1] != 0 and rises[k] != 0]
    second = [i for i in range(d, n + 1) if slow_level(q, n, weights, i) < 0 and many[i] != 0]
    return meets, first, second


def some_weights(q, n):
    """Tuples of all small numbers, right and wrong."""
    return [(times, list(rows)) for times in range(-1, 5) for rows in product(range(-1, 4), repeat=n)]


def right_weights(q, n, d):
    """Several right weights: the least ones, all rows alike, those for nearer words, sums and multiples."""
    told = [(1, [1] * n), (2, [2] * (n - 1) + [3])]
    told = [weights for weights in told if slow_right(q, n, d, weights)]
    told += [least_weights(q, n, near)[1] for near in range(1, d + 1)]
    first, last = told[0], told[-1]
    told.append((first[0] + last[0], [one + other for one, other in zip(first[1], last[1])]))
    told.append((last[0] * BIG, [row * BIG for row in last[1]]))
    told.append((max(1, last[0] // 2), list(last[1])))
    return told


class Right(unittest.TestCase):
    def test_by_the_definition_over_all_small_weights(self):
        for q, n, d in SMALL_PLACES:
            seen = set()
            for weights in some_weights(q, n):
                told = weights_right(q, n, d, weights)
                self.assertIs(type(told), bool)
                self.assertEqual(told, slow_right(q, n, d, weights), (q, n, d, weights))
                seen.add(told)
            self.assertEqual(seen, {True, False})

    def test_at_every_place_all_rows_alike_are_right_and_no_less(self):
        for q, n, d in PLACES:
            self.assertIs(weights_right(q, n, d, (1, [1] * n)), True)
            self.assertIs(weights_right(q, n, d, (2, [1] * n)), False)
            self.assertIs(weights_right(q, n, d, (1, [0] * n)), False)

    def test_at_each_distance_from_d_to_n(self):
        for q, n in SIZES:
            for weights in ((1, [1] + [0] * (n - 1)), (1, [0] * (n - 1) + [1]), (n, list(range(n, 0, -1)))):
                for d in range(1, n + 1):
                    self.assertEqual(weights_right(q, n, d, weights), slow_right(q, n, d, weights))

    def test_written_out(self):
        self.assertIs(weights_right(2, 3, 2, (1, [1, 0, 0])), True)
        self.assertIs(weights_right(2, 3, 1, (1, [1, 0, 0])), False)
        self.assertIs(weights_right(2, 3, 3, (3, [1, 0, 0])), True)
        self.assertIs(weights_right(2, 3, 3, (4, [1, 0, 0])), False)
        self.assertIs(weights_right(2, 8, 4, (4, [4, 1, 0, 0, 0, 0, 0, 0])), True)
        self.assertIs(weights_right(2, 8, 3, (4, [4, 1, 0, 0, 0, 0, 0, 0])), False)
        self.assertIs(weights_right(3, 4, 3, (1, [1, 0, 0, 0])), True)
        self.assertIs(weights_right(3, 4, 2, (1, [1, 0, 0, 0])), False)
        self.assertIs(weights_right(3, 5, 4, (2, [1, 0, 0, 0, 0])), True)
        self.assertIs(weights_right(3, 1, 1, (1, [1])), True)
        self.assertIs(weights_right(2, 1, 1, (1, [1])), True)

    def test_times_nought_and_below(self):
        for q, n, d in PLACES:
            for times in (0, -1, -2, -BIG):
                self.assertIs(weights_right(q, n, d, (times, [0] * n)), False)
                self.assertIs(weights_right(q, n, d, (times, [1] * n)), False)

    def test_rows_of_another_length(self):
        for q, n, d in PLACES:
            for many in [length for length in (0, 1, n - 1, n + 1, 2 * n, 40) if length != n]:
                self.assertIs(weights_right(q, n, d, (1, [1] * many)), False)
                self.assertIs(weights_right(q, n, d, (1, [0] * many)), False)
            self.assertIs(weights_right(q, n, d, (1, [1] * n + [0])), False)
        self.assertIs(weights_right(2, 3, 3, (1, [1, 0, 0])), True)
        self.assertIs(weights_right(2, 3, 3, (1, [1, 0])), False)
        self.assertIs(weights_right(2, 3, 3, (1, [1])), False)
        self.assertIs(weights_right(2, 3, 3, (1, [])), False)

    def test_rows_below_nought(self):
        # Of these each level from d on is at most nought: the row alone makes them wrong.
        self.assertLessEqual(slow_level(2, 3, (1, [1, -1, 0]), 3), 0)
        self.assertIs(weights_right(2, 3, 3, (1, [1, -1, 0])), False)
        self.assertIs(weights_right(3, 1, 1, (1, [-1])), False)
        self.assertIs(weights_right(3, 2, 2, (2, [2, -1])), False)
        for q, n, d in PLACES:
            for at in range(n):
                rows = [BIG] * n
                rows[at] = -1
                self.assertIs(weights_right(q, n, d, (1, rows)), False)

    def test_numbers_of_many_figures(self):
        for q, n, d in PLACES:
            times, rows = least_weights(q, n, d)[1]
            for factor in (10 ** 39, BIG, 10 ** 5000 + 1):
                many = (times * factor, [row * factor for row in rows])
                self.assertIs(weights_right(q, n, d, many), True)
                self.assertIs(weights_right(q, n, d, (many[0] + 1, many[1])), False)

    def test_longer_words(self):
        for q in (2, 3):
            for n in (9, 16, 20):
                self.assertIs(weights_right(q, n, n, (n, [1] + [0] * (n - 1))), True)
                self.assertIs(weights_right(q, n, n, (n + n * q, [1] + [0] * (n - 1))), False)


class Tell(unittest.TestCase):
    def assert_tells(self, q, n, weights):
        told = weights_tell(q, n, weights)
        self.assertTrue(is_fraction(told), told)
        self.assertEqual(Fraction(*told), slow_tell(q, n, weights))

    def test_by_the_definition(self):
        for q, n, d in SMALL_PLACES:
            for weights in some_weights(q, n):
                if weights[0] >= 1 and min(weights[1]) >= 0:
                    self.assert_tells(q, n, weights)
        for q, n, d in PLACES:
            for weights in right_weights(q, n, d):
                self.assert_tells(q, n, weights)

    def test_written_out_in_lowest_terms(self):
        self.assertEqual(weights_tell(2, 3, (1, [1, 0, 0])), (4, 1))
        self.assertEqual(weights_tell(2, 3, (3, [1, 0, 0])), (2, 1))
        self.assertEqual(weights_tell(2, 4, (3, [1, 0, 0, 1])), (8, 3))
        self.assertEqual(weights_tell(2, 4, (6, [2, 0, 0, 2])), (8, 3))
        self.assertEqual(weights_tell(3, 5, (5, [1, 0, 0, 0, 0])), (3, 1))
        self.assertEqual(weights_tell(3, 1, (4, [1])), (3, 2))
        self.assertEqual(weights_tell(2, 1, (7, [0])), (1, 1))
        self.assertEqual(weights_tell(2, 8, (1, [1] * 8)), (256, 1))

    def test_numbers_of_many_figures(self):
        self.assertEqual(weights_tell(2, 4, (3 * BIG, [BIG, 0, 0, BIG])), (8, 3))
        self.assertEqual(weights_tell(2, 1, (BIG, [1])), (BIG + 1, BIG))
        self.assertEqual(weights_tell(3, 1, (1, [BIG])), (1 + 2 * BIG, 1))

    def test_no_list_has_more_words_than_right_weights_tell(self):
        for q, n, d in PLACES:
            for words in (in_order(q, n, d), far_list(q, n, d, 1), []):
                for weights in right_weights(q, n, d):
                    self.assertTrue(weights_right(q, n, d, weights))
                    self.assertLessEqual(len(words), Fraction(*weights_tell(q, n, weights)))


class Least(unittest.TestCase):
    def test_the_kinds(self):
        for q, n, d in PLACES:
            told = least_weights(q, n, d)
            self.assertIs(type(told), tuple)
            self.assertEqual(len(told), 3)
            value, weights, shares = told
            self.assertTrue(is_fraction(value))
            self.assertIs(type(weights), tuple)
            self.assertEqual(len(weights), 2)
            self.assertTrue(is_whole(weights[0]))
            self.assertTrue(is_whole_list(weights[1]))
            self.assertEqual(len(weights[1]), n)
            self.assertIs(type(shares), list)
            self.assertEqual(len(shares), n + 1)
            self.assertTrue(all(is_fraction(share) for share in shares))

    def test_the_weights_are_right_and_tell_the_value(self):
        for q, n, d in PLACES:
            value, weights, shares = least_weights(q, n, d)
            self.assertTrue(slow_right(q, n, d, weights))
            self.assertIs(weights_right(q, n, d, weights), True)
            self.assertEqual(slow_tell(q, n, weights), Fraction(*value))
            self.assertEqual(weights_tell(q, n, weights), value)

    def test_the_shares_by_every_clause(self):
        for q, n, d in PLACES:
            value, weights, shares = least_weights(q, n, d)
            self.assertEqual(shares[0], (1, 1))
            self.assertEqual(shares[1:d], [(0, 1)] * (d - 1))
            parts = [Fraction(*share) for share in shares]
            self.assertGreaterEqual(min(parts), 0)
            for k in range(1, n + 1):
                self.assertGreaterEqual(sum(parts[i] * slow_wave(q, n, k, i) for i in range(n + 1)), 0)
            self.assertEqual(sum(parts), Fraction(*value))

    def test_no_right_weights_tell_less(self):
        for q, n, d in SMALL_PLACES:
            value = Fraction(*least_weights(q, n, d)[0])
            for weights in some_weights(q, n):
                if slow_right(q, n, d, weights):
                    self.assertGreaterEqual(slow_tell(q, n, weights), value)
        for q, n, d in PLACES:
            value = Fraction(*least_weights(q, n, d)[0])
            for weights in right_weights(q, n, d):
                self.assertGreaterEqual(slow_tell(q, n, weights), value)

    def test_values_written_out(self):
        two = {
            1: [2], 2: [4, 2], 3: [8, 4, 2], 4: [16, 8, Fraction(8, 3), 2], 5: [32, 16, 4, Fraction(8, 3), 2],
            6: [64, 32, 8, 4, Fraction(12, 5), 2], 7: [128, 64, 16, 8, 3, Fraction(12, 5), 2],
            8: [256, 128, Fraction(128, 5), 16, 4, 3, Fraction(16, 7), 2],
        }
        three = {1: [3], 2: [9, 3], 3: [27, 9, 3], 4: [81, 27, 9, 3], 5: [243, 81, 18, 6, 3]}
        for q, values in ((2, two), (3, three)):
            for n, row in values.items():
                told = [Fraction(*least_weights(q, n, d)[0]) for d in range(1, n + 1)]
                self.assertEqual(told, row)

    def test_no_list_has_more_words(self):
        for q, n, d in PLACES:
            value = Fraction(*least_weights(q, n, d)[0])
            for start in range(3):
                self.assertLessEqual(len(far_list(q, n, d, start)), value)

    def test_the_same_each_time_whatever_is_asked_between(self):
        first = [least_weights(q, n, d) for q, n, d in PLACES]
        again = [least_weights(q, n, d) for q, n, d in PLACES[::-1]]
        self.assertEqual(again[::-1], first)

    def test_the_told_lists_are_the_askers_own(self):
        for q, n, d in PLACES:
            value, weights, shares = least_weights(q, n, d)
            kept = (value, (weights[0], list(weights[1])), list(shares))
            self.assertIsNot(weights[1], shares)
            weights[1].append(5)
            weights[1][0] = -3
            shares.clear()
            self.assertEqual(least_weights(q, n, d), kept)


class Equality(unittest.TestCase):
    def assert_equality(self, q, n, d, words, weights):
        told = equality(q, n, d, words, weights)
        self.assertIs(type(told), tuple)
        self.assertEqual(len(told), 3)
        self.assertIs(type(told[0]), bool)
        self.assertTrue(is_whole_list(told[1]))
        self.assertTrue(is_whole_list(told[2]))
        self.assertEqual(told, slow_equality(q, n, d, words, weights))
        if told[0]:
            self.assertEqual(told[1:], ([], []))
        return told[0]

    def test_by_the_definition(self):
        seen = []
        for q, n, d in PLACES:
            if n <= 4 or d >= 3:
                far = far_list(q, n, d, 1)
                for words in ([], ["1" * n], far[:2], far, in_order(q, n, d)):
                    for weights in right_weights(q, n, d):
                        seen.append(self.assert_equality(q, n, d, words, weights))
        self.assertIn(True, seen)
        self.assertIn(False, seen)

    def test_lists_that_meet(self):
        met = [
            (2, 7, 3, checked(2, 7, ["0001111", "0110011", "1010101"])),
            (2, 7, 4, span(2, 7, ["0001111", "0110011", "1010101"])),
            (2, 8, 4, in_order(2, 8, 4)),
            (2, 8, 8, ["11111111", "00000000"]),
            (2, 3, 2, ["110", "101", "011", "000"]),
            (3, 4, 3, ["0000", "0111", "0222", "1012", "1120", "1201", "2021", "2102", "2210"]),
            (3, 4, 4, ["2222", "0000", "1111"]),
            (3, 5, 2, checked(3, 5, ["11111"])),
            (3, 1, 1, ["2", "0", "1"]),
            (2, 1, 1, ["1", "0"]),
        ]
        for q, n, d, words in met:
            least = slow_apart(words)
            self.assertGreaterEqual(least, d)
            times, rows = least_weights(q, n, d)[1]
            for weights in ((times, rows), (times * BIG, [row * BIG for row in rows])):
                self.assertEqual(equality(q, n, d, words, weights), (True, [], []))

    def test_all_words_meet_at_distance_one(self):
        for q, n in SIZES:
            told = equality(q, n, 1, every_word(q, n), (1, [1] * n))
            self.assertEqual(told, (True, [], []))

    def test_lists_that_do_not_meet_written_out(self):
        self.assertEqual(equality(2, 3, 2, ["000", "111"], (1, [1, 0, 0])), (False, [], [3]))
        self.assertEqual(equality(2, 3, 2, ["000", "011"], (1, [1, 0, 0])), (False, [1], []))
        self.assertEqual(equality(2, 3, 2, ["000", "111"], (1, [1, 1, 1])), (False, [2], []))
        self.assertEqual(equality(2, 3, 2, [], (1, [1, 0, 0])), (False, [], []))
        self.assertEqual(equality(2, 3, 3, ["101"], (1, [1, 0, 2])), (False, [1, 3], []))
        self.assertEqual(equality(2, 2, 1, ["01", "00", "11"], (1, [2, 2])), (False, [1, 2], [1, 2]))
        self.assertEqual(equality(3, 2, 1, ["01", "00", "22"], (1, [2, 2])), (False, [1, 2], [1, 2]))

    def test_as_many_words_and_rounding(self):
        # The weights tell 8/3, so two words are not what they tell.
        self.assertEqual(equality(2, 4, 3, ["0000", "0111"], (3, [1, 0, 0, 1]))[0], False)
        # Told is 4 here.
        for many, meets in ((0, False), (1, False), (3, False), (4, True)):
            words = ["110", "000", "101", "011"][:many]
            self.assertEqual(equality(2, 3, 2, words, (1, [1, 0, 0]))[0], meets)

    def test_below_d_nothing_is_asked_of_the_counts(self):
        words = ["00", "01", "10", "11"]
        self.assertEqual(slow_level(2, 2, (1, [2, 2]), 1), -1)
        self.assertEqual(equality(2, 2, 1, words, (1, [2, 2])), (False, [], [1, 2]))
        self.assertEqual(equality(2, 2, 2, words, (1, [2, 2])), (False, [], [2]))


class Beyond(unittest.TestCase):
    # What is told beyond the bounds is not promised, but for its kind and that it is no error.
    def assert_least(self, q, n, d):
        told = least_weights(q, n, d)
        self.assertEqual((type(told), len(told)), (tuple, 3))
        value, (times, rows), shares = told
        self.assertTrue(is_fraction(value) and is_whole(times) and is_whole_list(rows), (q, n, d))
        self.assertTrue(type(shares) is list and all(is_fraction(share) for share in shares), (q, n, d))
        self.assertEqual((len(rows), len(shares)), (max(n, 0), max(n, 0) + 1), (q, n, d))

    def test_least_weights_at_distances_below_one_and_above_the_length(self):
        for q, n in SIZES:
            for d in (-20, -2, -1, 0, n + 1, n + 2, n + 20):
                self.assert_least(q, n, d)

    def test_below_one_all_unlike_words_keep_apart_as_at_one(self):
        for q, n in SIZES:
            for d in (-3, -2, -1, 0):
                self.assertEqual(least_weights(q, n, d), least_weights(q, n, 1))

    def test_least_weights_at_lengths_below_one_and_above_eight(self):
        for q, n, d in product((2, 3), (-3, -1, 0, 9, 12), (-2, -1, 0, 1, 2, 5, 12, 13)):
            self.assert_least(q, n, d)

    def test_least_weights_of_fewer_and_more_signs(self):
        for q, n, d in product((-1, 0, 1, 4, 5), (-1, 0, 1, 4, 6), (-1, 0, 1, 2, 4, 7)):
            self.assert_least(q, n, d)

    def test_times_nought_and_below_tell_a_fraction(self):
        for q, n in SIZES + [(2, 0), (3, 0), (2, 9), (1, 4), (4, 3)]:
            for times in (0, -1, -2, -BIG):
                for rows in ([0] * n, [1] * n, [-1] * n, [], [BIG] * (n + 1)):
                    self.assertTrue(is_fraction(weights_tell(q, n, (times, rows))), (q, n, times, rows))

    def test_equality_with_any_times_and_rows_and_distance(self):
        for q, n in [(2, 1), (2, 4), (2, 8), (3, 1), (3, 3)]:
            for words, d, times in product(([], ["0" * n], far_list(q, n, n, 1)), (-20, -1, 0, 1, n + 1), (-2, 0, 1)):
                for rows in ([0] * n, [1] * n, [1] * (n - 1), [], [2] * (n + 3), [-1] * n):
                    told = equality(q, n, d, words, (times, rows))
                    self.assertEqual((type(told), len(told), type(told[0])), (tuple, 3, bool))
                    self.assertTrue(is_whole_list(told[1]) and is_whole_list(told[2]))

    def test_equality_at_length_nought(self):
        for words, d, times in product(([], [""]), (-1, 0, 1, 2), (0, 1)):
            equality(2, 0, d, words, (times, []))
            equality(3, 0, d, words, (times, [1]))

    def test_weights_right_is_a_truth(self):
        for q, n, d, times in product((1, 2, 3, 4), (-1, 0, 1, 4), (-9, -1, 0, 5), (-1, 0, 1)):
            for rows in ([], [0] * n, [1] * n):
                self.assertIs(type(weights_right(q, n, d, (times, rows))), bool)


class Handed(unittest.TestCase):
    def test_what_is_handed_in_stays_as_it_was(self):
        rows, words = [1, 0, 0], ["110", "000"]
        weights = (1, rows)
        weights_right(2, 3, 2, weights)
        weights_tell(2, 3, weights)
        equality(2, 3, 2, words, weights)
        self.assertEqual((weights, rows, words), ((1, [1, 0, 0]), [1, 0, 0], ["110", "000"]))

    def test_what_is_changed_behind_changes_nothing_told(self):
        rows, words = [1, 0, 0], ["011", "000"]
        told = equality(2, 3, 2, words, (1, rows))
        words.append("101")
        rows[0] = 0
        self.assertEqual(told, (False, [1], []))

    def test_the_told_lists_of_equality_are_the_askers_own(self):
        words, weights = ["01", "00", "11"], (1, [2, 2])
        told = equality(2, 2, 1, words, weights)
        self.assertIsNot(told[1], told[2])
        told[1].append(9)
        told[2].clear()
        self.assertEqual(equality(2, 2, 1, words, weights), (False, [1, 2], [1, 2]))
        empty = equality(2, 2, 1, [], weights)
        empty[1].append(1)
        self.assertEqual(empty[2], [])
        self.assertEqual(equality(2, 2, 1, [], weights), (False, [], []))

    def test_told_weights_may_be_handed_in_again(self):
        for q, n, d in PLACES:
            value, weights, shares = least_weights(q, n, d)
            kept = (weights[0], list(weights[1]))
            weights_right(q, n, d, weights)
            weights_tell(q, n, weights)
            equality(q, n, d, spread_row(q, n, 1, 3), weights)
            self.assertEqual(weights, kept)


if __name__ == "__main__":
    unittest.main()
