import unittest
from unittest import mock

from helper import (SIZES, differing, every_word, is_rising, is_words, slow_base, slow_checked, slow_span,
                    slow_sum, spread_row)
from wordsapart import spans
from wordsapart.words import plus


def counted(asked):
    """Asks, and fails as soon as more sums are reckoned than there are words: waiting for 2 ** 300 would not end."""
    def ask(q, n, row):
        made = []

        def counted_plus(*told):
            made.append(told)
            assert len(made) <= q ** n, "more sums than words"
            return plus(*told)

        with mock.patch.object(spans, "plus", counted_plus):
            return asked(q, n, row)
    return ask


span = counted(spans.span)
checked = counted(spans.checked)
base = counted(spans.base)


def noughts(n):
    return "0" * n


def unit(n, at):
    return "0" * at + "1" + "0" * (n - at - 1)


def few_words(q, n):
    """Rows of at most five words: none, noughts, alike ones, sums of others, in any order."""
    words = every_word(q, n)
    spread = spread_row(q, n, 3, 7)
    added = slow_sum(q, n, spread[:2], [1, q - 1])
    return [
        [],
        [noughts(n)],
        [noughts(n), noughts(n)],
        [words[-1]],
        [words[-1], words[-1], words[-1]],
        [words[1], noughts(n), words[-1], words[1]],
        spread,
        spread[::-1],
        [spread[0], spread[1], added, spread[2]],
        [added, spread[1], spread[0], spread[2], noughts(n)],
    ]


def many_words(q, n):
    """Rows of up to 300 words."""
    words = every_word(q, n)
    low = [word for word in words if word[0] == "0"]
    return [
        spread_row(q, n, 300, 7),
        (words * 150)[:300],
        (words[::-1] * 150)[:300],
        (low * 300)[:300],
        [words[-1]] * 300,
        [noughts(n)] * 300,
        [unit(n, n - 1 - k % n) for k in range(300)],
    ]


def reduced(q, rows, word):
    """What is left of the word when the rows, each with its first 1 at a place of its own, are taken off."""
    signs = [int(sign) for sign in word]
    for at, row in rows:
        times = signs[at]
        signs = [(sign - times * other) % q for sign, other in zip(signs, row)]
    return signs


def eliminated(q, row):
    """A base and rows of the same span, by elimination: so without any span."""
    chosen, rows = [], []
    for word in row:
        left = reduced(q, rows, word)
        if any(left):
            chosen.append(word)
            at = [place for place, sign in enumerate(left) if sign][0]
            rows.append((at, [sign * left[at] % q for sign in left]))
    return chosen, rows


class Span(unittest.TestCase):
    def test_by_its_definition(self):
        for q, n in SIZES:
            for row in few_words(q, n):
                told = span(q, n, row)
                self.assertTrue(is_words(q, n, told))
                self.assertTrue(is_rising(told))
                self.assertEqual(told, slow_span(q, n, row))

    def test_of_no_words_and_of_noughts_it_is_the_noughts_alone(self):
        for q, n in SIZES:
            self.assertEqual(span(q, n, []), [noughts(n)])
            self.assertEqual(span(q, n, [noughts(n)]), [noughts(n)])
            self.assertEqual(span(q, n, [noughts(n)] * 300), [noughts(n)])

    def test_written_out(self):
        self.assertEqual(span(2, 3, ["110", "011"]), ["000", "011", "101", "110"])
        self.assertEqual(span(3, 2, ["12"]), ["00", "12", "21"])
        self.assertEqual(span(3, 3, ["001", "100"]), ["000", "001", "002", "100", "101", "102", "200", "201", "202"])
        self.assertEqual(span(2, 8, ["11111111"]), ["00000000", "11111111"])

    def test_of_long_rows(self):
        for q, n in SIZES:
            for row in many_words(q, n):
                self.assertEqual(len(row), 300)
                rows = eliminated(q, row)[1]
                self.assertEqual(span(q, n, row), [word for word in every_word(q, n) if not any(reduced(q, rows, word))])

    def test_of_all_words_it_is_all_words(self):
        for q, n in SIZES:
            self.assertEqual(span(q, n, every_word(q, n)), every_word(q, n))
            self.assertEqual(span(q, n, [unit(n, at) for at in range(n)]), every_word(q, n))

    def test_it_has_as_many_words_as_the_base_tells(self):
        for q, n in SIZES:
            for row in few_words(q, n) + many_words(q, n):
                self.assertEqual(len(span(q, n, row)), q ** len(base(q, n, row)))

    def test_its_least_distance_is_the_least_weight(self):
        for q, n in SIZES:
            for row in few_words(q, n):
                told = span(q, n, row)
                if len(told) > 1:
                    weights = [n - word.count("0") for word in told if word != noughts(n)]
                    gaps = [differing(one, other) for one in told for other in told if one != other]
                    self.assertEqual(min(weights), min(gaps))

    def test_no_more_sums_than_there_are_words(self):
        for q, n in SIZES:
            for row in many_words(q, n):
                for asked in (span, checked, base):
                    self.assertIs(type(asked(q, n, row)), list)


class Checked(unittest.TestCase):
    def test_by_its_definition(self):
        for q, n in SIZES:
            for row in few_words(q, n):
                told = checked(q, n, row)
                self.assertTrue(is_words(q, n, told))
                self.assertTrue(is_rising(told))
                self.assertEqual(told, slow_checked(q, n, row))

    def test_of_no_words_and_of_noughts_it_is_all_words(self):
        for q, n in SIZES:
            self.assertEqual(checked(q, n, []), every_word(q, n))
            self.assertEqual(checked(q, n, [noughts(n)]), every_word(q, n))
            self.assertEqual(checked(q, n, [noughts(n)] * 300), every_word(q, n))

    def test_of_all_words_it_is_the_noughts_alone(self):
        for q, n in SIZES:
            self.assertEqual(checked(q, n, every_word(q, n)), [noughts(n)])

    def test_written_out(self):
        self.assertEqual(checked(2, 3, ["111"]), ["000", "011", "101", "110"])
        self.assertEqual(checked(3, 2, ["11"]), ["00", "12", "21"])
        self.assertEqual(checked(3, 2, ["12"]), ["00", "11", "22"])
        self.assertEqual(checked(3, 1, ["2"]), ["0"])
        self.assertEqual(len(checked(2, 7, ["0001111", "0110011", "1010101"])), 16)

    def test_of_long_rows(self):
        for q, n in ((2, 1), (2, 4), (2, 8), (3, 1), (3, 3), (3, 5)):
            for row in many_words(q, n):
                self.assertEqual(checked(q, n, row), slow_checked(q, n, row))

    def test_it_has_as_many_words_as_the_base_tells(self):
        for q, n in SIZES:
            for row in few_words(q, n) + many_words(q, n):
                self.assertEqual(len(checked(q, n, row)), q ** (n - len(base(q, n, row))))

    def test_the_checked_words_of_the_checked_words_are_the_span(self):
        for q, n in SIZES:
            for row in few_words(q, n) + many_words(q, n):
                self.assertEqual(checked(q, n, checked(q, n, row)), span(q, n, row))


class Base(unittest.TestCase):
    def test_by_its_definition(self):
        for q, n in SIZES:
            for row in few_words(q, n):
                told = base(q, n, row)
                self.assertTrue(is_words(q, n, told))
                self.assertEqual(told, slow_base(q, n, row))

    def test_of_no_words_and_of_noughts_it_is_empty(self):
        for q, n in SIZES:
            self.assertEqual(base(q, n, []), [])
            self.assertEqual(base(q, n, [noughts(n)]), [])
            self.assertEqual(base(q, n, [noughts(n)] * 300), [])

    def test_it_stands_in_the_order_of_the_row(self):
        self.assertEqual(base(2, 3, ["110", "001", "111", "010"]), ["110", "001", "010"])
        self.assertEqual(base(2, 3, ["010", "111", "001", "110"]), ["010", "111", "001"])
        self.assertEqual(base(3, 2, ["21", "12", "00", "01"]), ["21", "01"])
        for q, n in SIZES:
            falling = [unit(n, at) for at in range(n)]
            self.assertEqual(base(q, n, falling), falling)
            self.assertEqual(base(q, n, falling[::-1]), falling[::-1])

    def test_alike_words_and_words_that_are_sums_are_left_out(self):
        self.assertEqual(base(2, 2, ["11", "11", "11"]), ["11"])
        self.assertEqual(base(3, 3, ["012", "021", "012"]), ["012"])
        self.assertEqual(base(2, 4, ["0000", "1100", "0110", "1010", "0011"]), ["1100", "0110", "0011"])
        self.assertEqual(base(3, 4, ["1000", "0100", "2100", "1200", "0010"]), ["1000", "0100", "0010"])

    def test_of_long_rows(self):
        for q, n in SIZES:
            for row in many_words(q, n):
                self.assertEqual(base(q, n, row), eliminated(q, row)[0])

    def test_a_word_far_behind_is_still_taken(self):
        for q, n in SIZES:
            row = [noughts(n)] * 299 + ["1" * n]
            self.assertEqual(base(q, n, row), ["1" * n])


class Handed(unittest.TestCase):
    def test_the_handed_row_stays_as_it_was(self):
        for q, n in SIZES:
            for row in few_words(q, n) + many_words(q, n)[:1]:
                kept = list(row)
                for asked in (span, checked, base):
                    asked(q, n, row)
                    self.assertEqual(row, kept)

    def test_a_row_changed_behind_changes_nothing_told(self):
        for asked in (span, checked, base):
            row = ["110", "011"]
            told = asked(2, 3, row)
            kept = list(told)
            row.append("111")
            row[0] = "000"
            self.assertEqual(told, kept)

    def test_the_told_list_is_the_askers_own(self):
        for row in (["110", "011"], [], ["100", "010", "001"]):
            for asked in (span, checked, base):
                handed = list(row)
                told = asked(2, 3, handed)
                kept = list(told)
                told.append("spoilt")
                told.reverse()
                self.assertEqual(handed, row)
                self.assertEqual(asked(2, 3, handed), kept)

    def test_the_same_answer_each_time(self):
        for q, n in SIZES:
            for row in few_words(q, n):
                for asked in (span, checked, base):
                    self.assertEqual(asked(q, n, row), asked(q, n, list(row)))


if __name__ == "__main__":
    unittest.main()
