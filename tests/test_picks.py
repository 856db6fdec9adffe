import unittest
from itertools import combinations, product

from helper import (SIZES, SMALL_SIZES, differing, every_word, far_list, is_rising, is_whole, is_words, slow_apart,
                    some_lists, spread_row)
from wordsapart.picks import heard, in_order, reach, taken_on
from wordsapart.spans import checked
from wordsapart.words import keeps


def slow_taken(q, n, d, words):
    chosen = list(words)
    for word in every_word(q, n):
        if all(differing(word, held) >= d for held in chosen):
            chosen.append(word)
    return sorted(chosen)


def slow_heard(words, word):
    least = min(differing(word, held) for held in words)
    return least, sorted(held for held in words if differing(word, held) == least)


def starts(q, n, d):
    """Lists that keep apart by d, in no order: none, one word, and some that could be longer."""
    words = every_word(q, n)
    far = far_list(q, n, d, 1)
    return [[], [words[-1]], [words[len(words) // 2]], far[:2][::-1], far[: len(far) // 2], far]


def spoilt(q, word, places):
    """The words that differ from the word at just these places."""
    signs = [[sign for sign in "012"[:q] if (sign != word[at]) == (at in places)] for at in range(len(word))]
    return ["".join(chosen) for chosen in product(*signs)]


class Picks(unittest.TestCase):
    def assert_full(self, q, n, d, told):
        """Right, rising, and with no room for any other word."""
        self.assertTrue(is_words(q, n, told))
        self.assertTrue(is_rising(told))
        least = slow_apart(told)
        self.assertTrue(least is None or least >= d)
        for word in every_word(q, n):
            self.assertLess(min(differing(word, held) for held in told), d)


class InOrder(Picks):
    def test_for_every_distance(self):
        for q, n in SIZES:
            for d in range(1, n + 2):
                told = in_order(q, n, d)
                self.assertEqual(told, slow_taken(q, n, d, []))
                self.assert_full(q, n, d, told)

    def test_at_distance_one_all_words(self):
        for q, n in SIZES:
            self.assertEqual(in_order(q, n, 1), every_word(q, n))

    def test_beyond_the_length_the_first_word_alone(self):
        for q, n in SIZES:
            for d in (n + 1, n + 2, 20, 1000, 10 ** 40):
                self.assertEqual(in_order(q, n, d), ["0" * n])

    def test_written_out(self):
        self.assertEqual(in_order(2, 1, 1), ["0", "1"])
        self.assertEqual(in_order(3, 1, 1), ["0", "1", "2"])
        self.assertEqual(in_order(2, 3, 2), ["000", "011", "101", "110"])
        self.assertEqual(in_order(2, 5, 3), ["00000", "00111", "11001", "11110"])
        self.assertEqual(in_order(3, 4, 3), ["0000", "0111", "0222", "1012", "1120", "1201", "2021", "2102", "2210"])
        self.assertEqual(in_order(3, 5, 5), ["00000", "11111", "22222"])
        self.assertEqual(in_order(2, 8, 8), ["00000000", "11111111"])
        self.assertEqual(len(in_order(2, 8, 4)), 16)
        self.assertEqual(len(in_order(2, 7, 3)), 16)

    def test_the_other_count_of_signs_between_changes_nothing(self):
        first = [in_order(2, 4, 2), taken_on(2, 4, 2, ["1000"])]
        in_order(3, 4, 2)
        taken_on(3, 4, 2, ["2000"])
        self.assertEqual([in_order(2, 4, 2), taken_on(2, 4, 2, ["1000"])], first)
        told = {}
        for q, n in SMALL_SIZES + SMALL_SIZES[::-1]:
            for d in range(1, n + 2):
                start = ["1" * n]
                told.setdefault((q, n, d), (in_order(q, n, d), taken_on(q, n, d, start)))
                self.assertEqual((in_order(q, n, d), taken_on(q, n, d, start)), told[q, n, d])


class TakenOn(Picks):
    def test_for_every_distance(self):
        for q, n in SIZES:
            for d in range(1, n + 2):
                for words in starts(q, n, d):
                    told = taken_on(q, n, d, words)
                    self.assertEqual(told, slow_taken(q, n, d, words))
                    self.assertTrue(set(words) <= set(told))
                    self.assert_full(q, n, d, told)
                    self.assertIs(keeps(told, d), True)

    def test_from_no_words_it_is_the_list_taken_in_order(self):
        for q, n in SIZES:
            for d in range(1, n + 2):
                self.assertEqual(taken_on(q, n, d, []), in_order(q, n, d))

    def test_from_a_full_list_nothing_more_is_taken(self):
        for q, n in SIZES:
            for d in range(1, n + 2):
                full = far_list(q, n, d, 1)
                self.assertEqual(taken_on(q, n, d, full), sorted(full))

    def test_the_lists_words_come_first_and_the_told_ones_are_rising(self):
        self.assertEqual(taken_on(2, 3, 2, ["111"]), ["000", "111"])
        self.assertEqual(taken_on(2, 3, 2, ["100"]), ["001", "010", "100", "111"])
        self.assertEqual(taken_on(2, 3, 3, ["110"]), ["001", "110"])
        self.assertEqual(taken_on(3, 2, 2, ["21"]), ["00", "12", "21"])
        self.assertEqual(taken_on(3, 2, 2, ["22", "01"]), ["01", "10", "22"])
        self.assertEqual(taken_on(3, 1, 1, ["2", "0"]), ["0", "1", "2"])

    def test_beyond_the_length_the_list_stays_or_the_first_word_comes(self):
        for q, n in SIZES:
            self.assertEqual(taken_on(q, n, n + 1, ["1" * n]), ["1" * n])
            self.assertEqual(taken_on(q, n, 1000, []), ["0" * n])


class Heard(Picks):
    def test_of_lists_of_every_size(self):
        for q, n in SIZES:
            for words in some_lists(q, n)[1:]:
                for word in spread_row(q, n, 9, 5):
                    told = heard(words, word)
                    self.assertIs(type(told), tuple)
                    self.assertEqual(len(told), 2)
                    self.assertTrue(is_whole(told[0]))
                    self.assertTrue(is_words(q, n, told[1]))
                    self.assertTrue(is_rising(told[1]))
                    self.assertEqual(told, slow_heard(words, word))

    def test_one_nearest_word(self):
        self.assertEqual(heard(["111", "000"], "010"), (1, ["000"]))
        self.assertEqual(heard(["22222", "00000"], "22122"), (1, ["22222"]))
        self.assertEqual(heard(["1"], "0"), (1, ["1"]))
        self.assertEqual(heard(["2"], "2"), (0, ["2"]))
        self.assertEqual(heard(["11111111"], "00000000"), (8, ["11111111"]))

    def test_several_nearest_words_rising(self):
        self.assertEqual(heard(["11", "00"], "01"), (1, ["00", "11"]))
        self.assertEqual(heard(["22", "11", "00", "01"], "12"), (1, ["11", "22"]))
        self.assertEqual(heard(["1", "0"], "2"), (1, ["0", "1"]))
        self.assertEqual(heard(["110", "101", "011", "000"], "111"), (1, ["011", "101", "110"]))

    def test_a_word_of_the_list_is_its_own_nearest_alone(self):
        for q, n in SIZES:
            for words in some_lists(q, n)[1:]:
                for word in words[:5]:
                    self.assertEqual(heard(words, word), (0, [word]))

    def test_words_are_mended_where_less_than_half_the_distance_was_spoilt(self):
        for q, n in SIZES:
            for d in range(1, n + 1):
                words = far_list(q, n, d, 2)
                for word in words[:4]:
                    for many in range((d - 1) // 2 + 1):
                        for places in list(combinations(range(n), many))[:12]:
                            for received in spoilt(q, word, places):
                                self.assertEqual(heard(words, received), (many, [word]))


class Reach(Picks):
    def test_of_lists_of_every_size(self):
        for q, n in SIZES:
            for words in some_lists(q, n)[1:-1] + [far_list(q, n, d, 1) for d in range(1, n + 1)]:
                told = reach(q, n, words)
                self.assertTrue(is_whole(told))
                slow = max(min(differing(word, held) for held in words) for word in every_word(q, n))
                self.assertEqual(told, slow)

    def test_of_one_word_it_is_the_length(self):
        for q, n in SIZES:
            for word in ("0" * n, "1" * n, every_word(q, n)[-1], every_word(q, n)[1]):
                self.assertEqual(reach(q, n, [word]), n)

    def test_of_all_words_it_is_nought(self):
        for q, n in SIZES:
            self.assertEqual(reach(q, n, every_word(q, n)), 0)
            self.assertEqual(reach(q, n, every_word(q, n)[::-1]), 0)
            self.assertEqual(reach(q, n, every_word(q, n)[1:]), 1)

    def test_written_out(self):
        self.assertEqual(reach(2, 7, checked(2, 7, ["0001111", "0110011", "1010101"])), 1)
        self.assertEqual(reach(3, 4, ["0000", "0111", "0222", "1012", "1120", "1201", "2021", "2102", "2210"]), 1)
        self.assertEqual(reach(2, 5, ["11111", "00000"]), 2)
        self.assertEqual(reach(3, 3, ["000", "111", "222"]), 2)
        self.assertEqual(reach(3, 2, ["00", "11"]), 2)
        self.assertEqual(reach(2, 8, ["11111111", "00000000"]), 4)


class Beyond(unittest.TestCase):
    # What is told beyond the bounds is not promised, but is no error.
    def test_distances_and_lengths_below_one(self):
        for q, n, d in product((2, 3), (-2, -1, 0, 1, 3), (-3, -1, 0, 1, 9)):
            self.assertIs(type(in_order(q, n, d)), list)
            self.assertIs(type(taken_on(q, n, d, ["0" * n])), list)

    def test_an_empty_list_has_no_nearest_words(self):
        for word in ("", "0", "0110", "11111111"):
            self.assertEqual(heard([], word)[1], [])
            self.assertTrue(is_whole(heard([], word)[0]))

    def test_the_reach_of_an_empty_list_and_of_fewer_and_more_signs(self):
        for q, n in product((1, 2, 3, 4), (-1, 0, 1, 4)):
            self.assertTrue(is_whole(reach(q, n, [])))
            self.assertTrue(is_whole(reach(q, n, ["0" * n])))


class Handed(unittest.TestCase):
    def test_the_handed_list_stays_as_it_was(self):
        for words in (["110", "000"], ["111", "001"], ["011"]):
            kept = list(words)
            taken_on(2, 3, 2, words)
            heard(words, "010")
            reach(2, 3, words)
            self.assertEqual(words, kept)

    def test_a_list_changed_behind_changes_nothing_told(self):
        words = ["110", "000"]
        on, nearest = taken_on(2, 3, 2, words), heard(words, "010")
        words.append("001")
        words[0] = "111"
        self.assertEqual(on, ["000", "011", "101", "110"])
        self.assertEqual(nearest, (1, ["000", "110"]))
        self.assertEqual(heard(words, "010"), (1, ["000"]))

    def test_the_told_list_is_the_askers_own(self):
        words = ["110", "000", "101", "011"]
        asked = [
            lambda: in_order(2, 3, 2),
            lambda: taken_on(2, 3, 2, words),
            lambda: taken_on(2, 3, 4, []),
            lambda: heard(words, "111")[1],
        ]
        for ask in asked:
            told = ask()
            kept = list(told)
            told.append("spoilt")
            told.reverse()
            self.assertEqual(words, ["110", "000", "101", "011"])
            self.assertEqual(ask(), kept)

    def test_a_full_list_is_told_as_a_new_one(self):
        words = ["000", "111"]
        told = taken_on(2, 3, 3, words)
        self.assertEqual(told, words)
        self.assertIsNot(told, words)


if __name__ == "__main__":
    unittest.main()
