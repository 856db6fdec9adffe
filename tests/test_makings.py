import unittest
from itertools import product

from helper import SIZES, SMALL_SIZES, every_word, far_list, is_rising, is_words, slow_apart, some_lists
from wordsapart.makings import beside, cut, longer, pairs, shorter, sums
from wordsapart.words import apart, keeps

LONG_SIZES = [(q, n) for q, n in SIZES if n > 1]


def added(q, one, other):
    return "".join(str((int(a) + int(b)) % q) for a, b in zip(one, other))


def far_lists(q, n):
    """Lists for each distance from 1 to the length, in no order."""
    return [far_list(q, n, d, start) for d in range(1, n + 1) for start in (0, 1)]


def two_lists(q, n, m):
    """Lists of length n and of length m, in no order, of which all pairs come to few words."""
    for one in ([], far_list(q, n, n), far_list(q, n, max(1, n - 1), 1), some_lists(q, n)[4]):
        for other in ([], far_list(q, m, m, 1), far_list(q, m, max(1, m - 2)), some_lists(q, m)[5]):
            yield one, other


def far_words(many, places):
    """So many words of two signs, of so many places, in no order."""
    words = [f"{k * 37 % 2 ** places:0{places}b}" for k in range(many)]
    assert len(set(words)) == many
    return words


class Case(unittest.TestCase):
    def assert_told(self, q, n, told, expected):
        """A rising list of unlike words, with just the words that are expected."""
        self.assertTrue(is_words(q, n, told), told)
        self.assertTrue(is_rising(told), told)
        self.assertEqual(told, sorted(expected))

    def assert_as_far(self, told, d):
        """No two words are nearer than d, where there are two."""
        least = slow_apart(told)
        self.assertTrue(least is None or least >= d, (least, d))
        self.assertEqual(apart(told), least)
        self.assertIs(keeps(told, d), True)


class Cut(Case):
    def test_by_its_definition(self):
        for q, n in LONG_SIZES:
            for d in range(2, n + 1):
                for start in (0, 1, 5):
                    words = far_list(q, n, d, start)
                    told = cut(words)
                    self.assert_told(q, n - 1, told, [word[1:] for word in words])
                    self.assertEqual(len(told), len(words))
                    self.assert_as_far(told, d - 1)

    def test_written_out(self):
        self.assertEqual(cut(["110", "000", "101", "011"]), ["00", "01", "10", "11"])
        self.assertEqual(cut(["100", "011"]), ["00", "11"])
        self.assertEqual(cut(["22", "00", "11"]), ["0", "1", "2"])
        self.assertEqual(cut(["10"]), ["0"])

    def test_of_no_words_and_of_one(self):
        self.assertEqual(cut([]), [])
        self.assertEqual(cut(["12012"]), ["2012"])
        self.assertEqual(cut(["1" * 16]), ["1" * 15])

    def test_of_three_hundred_words_of_sixteen_places(self):
        words = [word + word for word in far_words(300, 9)]
        words = [word[:16] for word in words]
        self.assertEqual(cut(words), sorted(word[1:] for word in words))


class Shorter(Case):
    def slow_shorter(self, q, words):
        begun = {sign: [word[1:] for word in words if word[0] == sign] for sign in "012"[:q]}
        most = max(len(group) for group in begun.values())
        return [group for sign, group in sorted(begun.items()) if len(group) == most][0]

    def test_by_its_definition(self):
        for q, n in LONG_SIZES:
            for words in some_lists(q, n) + far_lists(q, n):
                told = shorter(q, words)
                self.assert_told(q, n - 1, told, self.slow_shorter(q, words))
                least = slow_apart(words)
                if least is not None:
                    self.assert_as_far(told, least)
                self.assertGreaterEqual(q * len(told), len(words))

    def test_the_sign_with_which_most_begin(self):
        self.assertEqual(shorter(2, ["11", "10", "00"]), ["0", "1"])
        self.assertEqual(shorter(2, ["01", "10", "00"]), ["0", "1"])
        self.assertEqual(shorter(3, ["200", "022", "211", "100"]), ["00", "11"])
        self.assertEqual(shorter(3, ["100", "222", "112", "011"]), ["00", "12"])
        self.assertEqual(shorter(2, ["111"]), ["11"])
        self.assertEqual(shorter(3, ["201"]), ["01"])

    def test_of_several_signs_the_least(self):
        self.assertEqual(shorter(2, ["11", "00"]), ["0"])
        self.assertEqual(shorter(3, ["22", "11", "00"]), ["0"])
        self.assertEqual(shorter(3, ["21", "12"]), ["2"])
        self.assertEqual(shorter(3, ["20", "22", "11", "12", "00"]), ["1", "2"])
        self.assertEqual(shorter(3, ["20", "22", "01", "02", "10"]), ["1", "2"])

    def test_of_no_words(self):
        self.assertEqual(shorter(2, []), [])
        self.assertEqual(shorter(3, []), [])

    def test_of_words_of_sixteen_places(self):
        words = [("1" if k % 3 else "0") + word for k, word in enumerate(far_words(300, 15))]
        self.assertEqual(shorter(2, words), sorted(word[1:] for word in words if word[0] == "1"))


class Longer(Case):
    def test_by_its_definition(self):
        for q, n in SIZES:
            for words in some_lists(q, n) + far_lists(q, n):
                told = longer(q, words)
                self.assert_told(q, n + 1, told, told)
                self.assertEqual([word[:-1] for word in told], sorted(words))
                self.assertTrue(all(sum(map(int, word)) % q == 0 for word in told))

    def test_the_least_distance(self):
        for q, n in SIZES:
            for words in some_lists(q, n) + far_lists(q, n):
                least = slow_apart(words)
                if least is not None:
                    rises = least == 1 or q == 2 and least % 2 == 1
                    self.assert_as_far(longer(q, words), least + 1 if rises else least)

    def test_for_two_signs_each_odd_distance_rises_by_one_and_no_even_one(self):
        for n in range(1, 9):
            for words in far_lists(2, n):
                least = slow_apart(words)
                self.assertEqual(apart(longer(2, words)), least + least % 2)

    def test_for_three_signs_a_distance_of_one_rises_and_others_need_not(self):
        self.assertEqual(apart(longer(3, ["00", "01"])), 2)
        self.assertEqual(apart(longer(3, ["00", "12"])), 2)
        self.assertEqual(apart(longer(3, ["000", "111"])), 3)

    def test_written_out(self):
        self.assertEqual(longer(2, ["11", "01", "10", "00"]), ["000", "011", "101", "110"])
        self.assertEqual(longer(3, ["2", "1", "0"]), ["00", "12", "21"])
        self.assertEqual(longer(3, ["11", "22", "20"]), ["111", "201", "222"])
        self.assertEqual(longer(2, ["1"]), ["11"])
        self.assertEqual(longer(2, ["1" * 15]), ["1" * 16])

    def test_of_no_words(self):
        self.assertEqual(longer(2, []), [])
        self.assertEqual(longer(3, []), [])

    def test_of_three_hundred_words_of_fifteen_places(self):
        words = far_words(300, 15)
        self.assertEqual(longer(2, words), sorted(word + str(word.count("1") % 2) for word in words))


class Beside(Case):
    def test_by_its_definition(self):
        for (q, n), m in product(SIZES, (1, 2, 5)):
            for one, other in two_lists(q, n, m):
                told = beside(one, other)
                few = min(len(one), len(other))
                expected = [sorted(one)[k] + sorted(other)[k] for k in range(few)]
                self.assert_told(q, n + m, told, expected)
                if few > 1:
                    self.assert_as_far(told, slow_apart(one) + slow_apart(other))

    def test_lists_of_unlike_lengths(self):
        self.assertEqual(beside(["1", "0"], ["111", "000", "011"]), ["0000", "1011"])
        self.assertEqual(beside(["22", "11", "00"], ["1"]), ["001"])
        self.assertEqual(beside(["10", "01", "00", "11"], ["1", "0"]), ["000", "011"])

    def test_both_are_taken_rising(self):
        self.assertEqual(beside(["11", "00"], ["00", "11"]), ["0000", "1111"])
        self.assertEqual(beside(["2", "0", "1"], ["1", "2", "0"]), ["00", "11", "22"])

    def test_the_very_same_list_for_both(self):
        for q, n in SIZES:
            words = far_list(q, n, 1, 3)
            self.assert_told(q, 2 * n, beside(words, words), [word + word for word in words])
            self.assertEqual(apart(beside(words, words)), 2)

    def test_with_no_words(self):
        for one, other in (([], []), ([], ["01"]), (["01"], [])):
            self.assertEqual(beside(one, other), [])

    def test_of_the_greatest_lengths(self):
        self.assert_as_far(beside(far_list(2, 8, 4), far_list(2, 8, 4, 1)), 8)
        self.assert_as_far(beside(far_list(3, 5, 3), far_list(3, 5, 4, 1)), 7)
        words = far_words(256, 8)
        self.assert_told(2, 16, beside(words, words[:200]), [a + b for a, b in zip(sorted(words), sorted(words[:200]))])


class Pairs(Case):
    def test_by_its_definition(self):
        for (q, n), m in product(SIZES, (1, 2, 5)):
            for one, other in two_lists(q, n, m):
                told = pairs(one, other)
                self.assert_told(q, n + m, told, [u + v for u in one for v in other])
                self.assertEqual(len(told), len(one) * len(other))
                if len(one) > 1 and len(other) > 1:
                    self.assertEqual(apart(told), min(slow_apart(one), slow_apart(other)))

    def test_written_out(self):
        self.assertEqual(pairs(["1", "0"], ["11", "00"]), ["000", "011", "100", "111"])
        self.assertEqual(pairs(["2"], ["1", "0", "2"]), ["20", "21", "22"])

    def test_the_very_same_list_for_both(self):
        for q, n in SMALL_SIZES:
            words = far_list(q, n, 1, 3)
            self.assert_told(q, 2 * n, pairs(words, words), every_word(q, 2 * n))

    def test_with_no_words(self):
        for one, other in (([], []), ([], ["01"]), (["01"], [])):
            self.assertEqual(pairs(one, other), [])

    def test_some_two_thousand_words_of_sixteen_places(self):
        one, other = far_words(8, 8), far_words(250, 8)
        told = pairs(one, other)
        self.assert_told(2, 16, told, [u + v for u in one for v in other])
        self.assertEqual(len(told), 2000)


class Sums(Case):
    def test_by_its_definition(self):
        for q, n in SIZES:
            for one, other in two_lists(q, n, n):
                told = sums(q, one, other)
                self.assert_told(q, 2 * n, told, [u + added(q, u, v) for u in one for v in other])
                self.assertEqual(len(told), len(one) * len(other))
                if len(one) > 1 and len(other) > 1:
                    self.assert_as_far(told, min(2 * slow_apart(one), slow_apart(other)))

    def test_written_out(self):
        self.assertEqual(sums(2, ["1", "0"], ["1", "0"]), ["00", "01", "10", "11"])
        self.assertEqual(sums(2, ["11", "01"], ["11"]), ["0110", "1100"])
        self.assertEqual(sums(3, ["2", "1"], ["2"]), ["10", "21"])
        self.assertEqual(sums(3, ["01"], ["00", "22", "11"]), ["0101", "0112", "0120"])

    def test_which_of_both_is_the_one(self):
        one, other = ["000", "011", "101", "110"], ["000", "111"]
        self.assertEqual(apart(sums(2, one, other)), 3)
        self.assertEqual(apart(sums(2, other, one)), 2)
        self.assertEqual(apart(sums(2, ["00", "01", "10", "11"], ["00", "11"])), 2)

    def test_the_very_same_list_for_both(self):
        for q, n in SMALL_SIZES:
            words = far_list(q, n, 1, 3)
            self.assert_told(q, 2 * n, sums(q, words, words), every_word(q, 2 * n))

    def test_with_no_words(self):
        for q in (2, 3):
            for one, other in (([], []), ([], ["01"]), (["01"], [])):
                self.assertEqual(sums(q, one, other), [])

    def test_two_thousand_words_of_sixteen_places(self):
        one = far_words(125, 8)
        other = far_words(256, 8)[100:116]
        told = sums(2, one, other)
        self.assertEqual(len(told), 2000)
        self.assert_told(2, 16, told, [u + added(2, u, v) for u in one for v in other])


ASKED = [
    ("cut", lambda one, other: cut(one)),
    ("shorter", lambda one, other: shorter(2, one)),
    ("longer", lambda one, other: longer(2, one)),
    ("beside", lambda one, other: beside(one, other)),
    ("pairs", lambda one, other: pairs(one, other)),
    ("sums", lambda one, other: sums(2, one, other)),
]


class Beyond(Case):
    # What is told of words with fewer places than are asked for is not promised, but is no error.
    def test_words_of_one_place_and_of_none(self):
        for q in (1, 2, 3, 4):
            for words in ([], [""], ["0"], ["1", "0"]):
                for told in (cut(words), shorter(q, words), longer(q, words)):
                    self.assertIs(type(told), list)
                for other in ([], [""], ["0"], ["0", "1"]):
                    for told in (beside(words, other), pairs(words, other), sums(q, words, other)):
                        self.assertIs(type(told), list)


class Handed(Case):
    def test_any_order_comes_to_the_same(self):
        one, other = ["000", "011", "101", "110"], ["000", "001", "111"]
        for name, asked in ASKED:
            told = asked(one, other)
            self.assertTrue(is_rising(told), name)
            self.assertEqual(asked(one[::-1], other[::-1]), told, name)
            self.assertEqual(asked(one[2:] + one[:2], other[1:] + other[:1]), told, name)

    def test_the_handed_lists_stay_as_they_were(self):
        for name, asked in ASKED:
            one, other = ["110", "000", "101", "011"], ["111", "001", "000"]
            asked(one, other)
            asked(one, one)
            self.assertEqual(one, ["110", "000", "101", "011"], name)
            self.assertEqual(other, ["111", "001", "000"], name)

    def test_lists_changed_behind_change_nothing_told(self):
        for name, asked in ASKED:
            one, other = ["110", "000", "101", "011"], ["111", "001", "000"]
            told = asked(one, other)
            kept = list(told)
            one.clear()
            other.append("110")
            other[0] = "010"
            self.assertEqual(told, kept, name)

    def test_the_told_list_is_the_askers_own(self):
        for one, other in ((["110", "000", "101", "011"], ["111", "001", "000"]), ([], []), (["000"], ["000"])):
            for name, asked in ASKED:
                ours, theirs = list(one), list(other)
                told = asked(ours, theirs)
                kept = list(told)
                self.assertIsNot(told, ours, name)
                told.append("spoilt")
                told.reverse()
                self.assertEqual((ours, theirs), (one, other), name)
                self.assertEqual(asked(ours, theirs), kept, name)


if __name__ == "__main__":
    unittest.main()
