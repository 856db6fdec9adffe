import unittest
from copy import deepcopy
from fractions import Fraction
from itertools import product

from helper import (SIZES, differing, every_word, far_list, is_whole, largest, slow_level, slow_paper, slow_right,
                    wrapped)
from wordsapart.papers import paper_tells
from wordsapart.picks import in_order
from wordsapart.spans import checked
from wordsapart.weights import least_weights

WIDE = [(q, n, d) for q in (2, 3) for n in range(1, 21) for d in range(1, 21)]
PLACES = [(q, n, d) for q, n in SIZES for d in range(1, n + 1)]
MAKINGS = ["nearer", "cut", "shorter", "longer"]
PLAIN = [("one",), ("all",), ("balls",)]
BIG = 10 ** 59 + 7
DEEP = [[making] * 11 for making in MAKINGS] + [["longer", "nearer"] * 5, ["longer"] * 30, ["cut"] * 30]


def least_paper(q, n, d):
    value, (times, rows), shares = least_weights(q, n, d)
    return "waves", times, rows


def some_papers(q):
    """Papers of every making, up to three makings one within the other, with right and wrong weights."""
    inmost = PLAIN + [least_paper(q, n, d) for n, d in [(1, 1), (2, 2), (3, 2), (4, 3), (5, 4), (5, 5)]]
    inmost += [("waves", 1, [1] * n) for n in range(7)] + [("waves", 0, [1, 1]), ("waves", 1, [2, -1, 0])]
    return [wrapped(makings, paper) for many in range(3) for makings in product(MAKINGS, repeat=many)
            for paper in inmost]


class Plain(unittest.TestCase):
    def test_one_where_d_is_greater_than_n(self):
        for q, n, d in WIDE:
            self.assertEqual(paper_tells(q, n, d, ("one",)), 1 if d > n else None, (q, n, d))

    def test_all_words_of_the_length(self):
        for q, n, d in WIDE:
            self.assertEqual(paper_tells(q, n, d, ("all",)), q ** n)

    def test_balls_counted_one_by_one(self):
        for q, n in SIZES:
            words = every_word(q, n)
            for d in range(1, 2 * n + 4):
                within = [word for word in words if differing(word, "0" * n) <= (d - 1) // 2]
                self.assertEqual(paper_tells(q, n, d, ("balls",)), q ** n // len(within), (q, n, d))

    def test_balls_by_ways(self):
        for q, n, d in WIDE:
            self.assertEqual(paper_tells(q, n, d, ("balls",)), slow_paper(q, n, d, ("balls",)), (q, n, d))

    def test_balls_written_out(self):
        self.assertEqual(paper_tells(2, 7, 3, ("balls",)), 16)
        self.assertEqual(paper_tells(2, 7, 4, ("balls",)), 16)
        self.assertEqual(paper_tells(2, 8, 3, ("balls",)), 28)
        self.assertEqual(paper_tells(3, 4, 3, ("balls",)), 9)
        self.assertEqual(paper_tells(3, 11, 5, ("balls",)), 729)
        self.assertEqual(paper_tells(2, 20, 1, ("balls",)), 1048576)
        self.assertEqual(paper_tells(2, 20, 2, ("balls",)), 1048576)
        self.assertEqual(paper_tells(2, 20, 3, ("balls",)), 49932)
        self.assertEqual(paper_tells(3, 20, 20, ("balls",)), 26)
        self.assertEqual(paper_tells(2, 1, 3, ("balls",)), 1)
        self.assertEqual(paper_tells(3, 1, 20, ("balls",)), 1)


class Waves(unittest.TestCase):
    def test_right_weights_tell_their_fraction_rounded_down(self):
        broken = 0
        for q, n, d in PLACES:
            value, (times, rows), shares = least_weights(q, n, d)
            self.assertEqual(paper_tells(q, n, d, ("waves", times, rows)), Fraction(*value).__floor__())
            self.assertEqual(paper_tells(q, n, d, ("waves", times * BIG, [row * BIG for row in rows])),
                             value[0] // value[1])
            broken += value[1] > 1
        self.assertGreater(broken, 0)

    def test_written_out(self):
        self.assertEqual(paper_tells(2, 3, 2, ("waves", 1, [1, 0, 0])), 4)
        self.assertIsNone(paper_tells(2, 3, 1, ("waves", 1, [1, 0, 0])))
        self.assertEqual(paper_tells(2, 3, 3, ("waves", 2, [1, 0, 0])), 2)
        self.assertEqual(paper_tells(2, 3, 3, ("waves", 3, [1, 0, 0])), 2)
        self.assertEqual(paper_tells(2, 8, 6, ("waves", 4, [1, 0, 0, 0, 0, 0, 0, 0])), 3)
        self.assertEqual(paper_tells(2, 8, 6, ("waves", 3, [1, 0, 0, 0, 0, 0, 0, 0])), 3)
        self.assertEqual(paper_tells(3, 5, 4, ("waves", 2, [1, 0, 0, 0, 0])), 6)

    def test_all_rows_alike_to_twenty(self):
        for q, n, d in WIDE:
            told = paper_tells(q, n, d, ("waves", 1, [1] * n))
            self.assertEqual(told, q ** n if d <= n else None, (q, n, d))
            self.assertIsNone(paper_tells(q, n, d, ("waves", 2, [1] * n)))

    def test_none_where_d_is_above_n(self):
        for q, n in SIZES:
            for rows in ([1] * n, [1] + [0] * (n - 1), [BIG] * n):
                self.assertEqual(paper_tells(q, n, n, ("waves", 1, rows)), slow_paper(q, n, n, ("waves", 1, rows)))
                for d in range(n + 1, 21):
                    self.assertIsNone(paper_tells(q, n, d, ("waves", 1, rows)))

    def test_times_nought_and_below(self):
        for q, n, d in WIDE:
            for times in (0, -1, -BIG):
                self.assertIsNone(paper_tells(q, n, d, ("waves", times, [1] * n)))
                self.assertIsNone(paper_tells(q, n, d, ("waves", times, [0] * n)))

    def test_rows_too_few_and_too_many(self):
        for q, n, d in PLACES:
            for many in range(n + 4):
                told = paper_tells(q, n, d, ("waves", 1, [1] * many))
                self.assertEqual(told, q ** n if many == n else None)
            self.assertIsNone(paper_tells(q, n, d, ("waves", 1, [1] * n + [0])))
            self.assertIsNone(paper_tells(q, n, d, ("waves", 1, [])))

    def test_rows_below_nought(self):
        # Their level at 3 is at most nought: the row below nought alone makes them wrong.
        self.assertLessEqual(slow_level(2, 3, (1, [2, -1, 0]), 3), 0)
        self.assertIsNone(paper_tells(2, 3, 3, ("waves", 1, [2, -1, 0])))
        self.assertEqual(paper_tells(2, 3, 3, ("waves", 1, [2, 0, 0])), 7)
        for q, n, d in PLACES:
            for at in range(n):
                rows = [BIG] * n
                rows[at] = -1
                self.assertIsNone(paper_tells(q, n, d, ("waves", 1, rows)))

    def test_over_all_small_weights(self):
        for q, n, d in [(q, n, d) for q, n, d in PLACES if n <= 3]:
            for times, *rows in product(range(-1, 4), repeat=n + 1):
                told = paper_tells(q, n, d, ("waves", times, rows))
                self.assertEqual(told, slow_paper(q, n, d, ("waves", times, rows)), (q, n, d, times, rows))
                self.assertEqual(told is None, not slow_right(q, n, d, (times, rows)))


class LedBack(unittest.TestCase):
    def test_nearer(self):
        for q, n, d in WIDE:
            told = paper_tells(q, n, d, ("nearer", ("balls",)))
            self.assertEqual(told, None if d == 1 else slow_paper(q, n, d - 1, ("balls",)))
        self.assertIsNone(paper_tells(2, 5, 1, ("nearer", ("all",))))
        self.assertIsNone(paper_tells(2, 5, 6, ("nearer", ("one",))))
        self.assertEqual(paper_tells(2, 5, 7, ("nearer", ("one",))), 1)
        self.assertEqual(paper_tells(2, 3, 4, ("nearer", ("waves", 1, [1, 0, 0]))), 4)

    def test_cut(self):
        for q, n, d in WIDE:
            told = paper_tells(q, n, d, ("cut", ("balls",)))
            self.assertEqual(told, None if n == 1 or d == 1 else slow_paper(q, n - 1, d - 1, ("balls",)))
            self.assertEqual(paper_tells(q, n, d, ("cut", ("all",))), None if 1 in (n, d) else q ** (n - 1))
        self.assertIsNone(paper_tells(2, 1, 5, ("cut", ("one",))))
        self.assertEqual(paper_tells(2, 2, 3, ("cut", ("one",))), 1)
        self.assertIsNone(paper_tells(3, 4, 1, ("cut", ("all",))))
        self.assertEqual(paper_tells(2, 4, 3, ("cut", ("waves", 1, [1, 0, 0]))), 4)

    def test_shorter(self):
        for q, n, d in WIDE:
            told = paper_tells(q, n, d, ("shorter", ("balls",)))
            self.assertEqual(told, None if n == 1 else q * slow_paper(q, n - 1, d, ("balls",)))
            self.assertEqual(paper_tells(q, n, d, ("shorter", ("one",))), q if 2 <= n <= d else None)
        self.assertEqual(paper_tells(3, 5, 4, ("shorter", ("waves", 4, [1, 0, 0, 0]))), 9)
        self.assertIsNone(paper_tells(3, 1, 1, ("shorter", ("all",))))

    def test_the_fraction_is_rounded_down_ahead_of_the_signs(self):
        # The weights tell 3 and a third: twice that is more than 6.
        paper = ("waves", 3, [1, 0, 0, 0, 0, 0, 0])
        self.assertEqual(Fraction(slow_level(2, 7, paper[1:], 0), 3), Fraction(10, 3))
        self.assertEqual(paper_tells(2, 8, 5, ("shorter", paper)), 6)
        self.assertEqual(paper_tells(2, 8, 3, ("shorter", ("balls",))), 32)

    def test_longer(self):
        for q, n, d in WIDE:
            told = paper_tells(q, n, d, ("longer", ("balls",)))
            self.assertEqual(told, slow_paper(2, n + 1, d + 1, ("balls",)) if q == 2 and d % 2 == 1 else None)
        self.assertEqual(paper_tells(2, 7, 3, ("longer", ("waves", 4, [4, 1] + [0] * 6))), 16)
        self.assertIsNone(paper_tells(2, 7, 4, ("longer", ("all",))))
        self.assertIsNone(paper_tells(3, 4, 3, ("longer", ("all",))))
        self.assertEqual(paper_tells(2, 20, 19, ("longer", ("waves", 1, [1] * 21))), 2 ** 21)
        self.assertIsNone(paper_tells(2, 20, 19, ("longer", ("waves", 1, [1] * 20))))
        self.assertEqual(paper_tells(2, 5, 7, ("longer", ("one",))), 1)

    def test_by_the_definition(self):
        for q in (2, 3):
            seen = set()
            for paper in some_papers(q):
                for n, d in product((1, 2, 3, 4, 5, 6, 20), (1, 2, 3, 4, 5, 6, 19, 20)):
                    told = paper_tells(q, n, d, paper)
                    self.assertEqual(told, slow_paper(q, n, d, paper), (q, n, d, paper))
                    self.assertTrue(told is None or is_whole(told))
                    seen.add((paper[0], told is None))
            names = MAKINGS + ["one", "all", "balls", "waves"]
            expected = {(name, none) for name in names for none in (True, False)} - {("all", True), ("balls", True)}
            self.assertEqual(seen, expected - ({("longer", False)} if q == 3 else set()))

    def test_a_making_within_that_does_not_suit(self):
        self.assertEqual(paper_tells(2, 2, 2, ("shorter", ("nearer", ("all",)))), 4)
        self.assertIsNone(paper_tells(2, 2, 2, ("shorter", ("shorter", ("all",)))))
        self.assertIsNone(paper_tells(2, 2, 2, ("nearer", ("nearer", ("all",)))))
        self.assertIsNone(paper_tells(2, 3, 3, ("longer", ("longer", ("all",)))))
        self.assertEqual(paper_tells(2, 3, 3, ("longer", ("nearer", ("longer", ("all",))))), 32)


class Deep(unittest.TestCase):
    def test_twelve_makings(self):
        self.assertEqual(paper_tells(2, 20, 20, wrapped(["cut"] * 11, ("all",))), 512)
        self.assertEqual(paper_tells(3, 20, 20, wrapped(["shorter"] * 11, ("one",))), 3 ** 11)
        self.assertEqual(paper_tells(2, 5, 20, wrapped(["nearer"] * 11, ("balls",))), 1)
        self.assertEqual(paper_tells(2, 20, 12, wrapped(["nearer"] * 11, ("waves", 1, [1] * 20))), 2 ** 20)
        self.assertIsNone(paper_tells(2, 20, 11, wrapped(["nearer"] * 11, ("all",))))
        self.assertIsNone(paper_tells(2, 11, 20, wrapped(["cut"] * 11, ("all",))))
        self.assertEqual(paper_tells(2, 12, 12, wrapped(["cut"] * 11, ("all",))), 2)
        # Five makings longer and six nearer: the length comes to 25, beyond twenty.
        rising = wrapped(["nearer"] + ["longer", "nearer"] * 5, ("all",))
        self.assertEqual(paper_tells(2, 20, 20, rising), 2 ** 25)
        self.assertIsNone(paper_tells(3, 20, 20, rising))
        self.assertEqual(paper_tells(2, 20, 20, wrapped(["nearer"] + ["longer", "nearer"] * 5,
                                                        ("waves", 1, [1] * 25))), 2 ** 25)

    def test_twelve_makings_by_the_definition(self):
        for seed in range(300):
            makings = [MAKINGS[(seed * (k + 3) + k * k) % 4] for k in range(11)]
            for inmost in PLAIN:
                paper = wrapped(makings, inmost)
                for q, n, d in [(2, 20, 20), (2, 13, 20), (2, 20, 13), (3, 20, 20), (3, 15, 9)]:
                    self.assertEqual(paper_tells(q, n, d, paper), slow_paper(q, n, d, paper), (q, n, d, paper))

    def test_more_than_twelve_are_no_error(self):
        self.assertEqual(paper_tells(2, 20, 20, wrapped(["shorter"] * 19, ("one",))), 2 ** 19)


class Beyond(unittest.TestCase):
    # What is told beyond the bounds is not promised, but for its kind and that it is no error.
    def assert_no_error(self, q, n, d):
        for paper in some_papers(q) + [wrapped(makings, ("balls",)) for makings in DEEP]:
            told = paper_tells(q, n, d, paper)
            self.assertTrue(told is None or is_whole(told), (q, n, d, paper))

    def test_distances_below_one(self):
        for q, n, d in product((2, 3), (1, 2, 4, 5, 8, 20), range(-5, 1)):
            self.assert_no_error(q, n, d)

    def test_no_paper_is_for_a_distance_below_one(self):
        for q, n, d in product((2, 3), range(1, 21), range(-5, 1)):
            for paper in PLAIN + [("longer", ("balls",)), ("shorter", ("all",)), ("waves", 1, [1] * n)]:
                self.assertIsNone(paper_tells(q, n, d, paper))

    def test_lengths_below_one(self):
        for q, n, d in product((2, 3), range(-5, 1), (-2, -1, 0, 1, 2, 3, 20)):
            self.assert_no_error(q, n, d)

    def test_above_twenty(self):
        for q, n, d in product((2, 3), (4, 21, 25), (3, 21, 22, 25)):
            self.assert_no_error(q, n, d)

    def test_fewer_and_more_signs(self):
        for q, n, d in product((0, 1, 4, 5), (-1, 0, 1, 4), (-1, 0, 1, 3, 20)):
            for paper in some_papers(2):
                paper_tells(q, n, d, paper)


class Holds(unittest.TestCase):
    def test_no_list_has_more_words_than_a_paper_tells(self):
        for q, lengths in ((2, (1, 2, 3, 4)), (3, (1, 2))):
            for n, d in product(lengths, range(1, 6)):
                most = largest(every_word(q, n), d)
                tight = False
                for paper in some_papers(q):
                    told = paper_tells(q, n, d, paper)
                    self.assertTrue(told is None or told >= most, (q, n, d, paper))
                    tight = tight or told == most
                self.assertTrue(tight, (q, n, d))

    def test_nor_the_lists_of_greater_lengths(self):
        for q, n, d in PLACES:
            longest = max(len(far_list(q, n, d)), len(in_order(q, n, d)))
            for paper in some_papers(q) + [least_paper(q, n, d)]:
                told = paper_tells(q, n, d, paper)
                self.assertTrue(told is None or told >= longest, (q, n, d, paper))

    def test_a_list_that_is_as_long_as_papers_tell(self):
        words = checked(2, 7, ["0001111", "0110011", "1010101"])
        self.assertEqual(len(words), 16)
        for paper in (("balls",), least_paper(2, 7, 3), ("longer", least_paper(2, 8, 4))):
            self.assertEqual(paper_tells(2, 7, 3, paper), 16)


class Handed(unittest.TestCase):
    def test_the_paper_stays_as_it_was(self):
        for q in (2, 3):
            for paper in some_papers(q):
                before = deepcopy(paper)
                paper_tells(q, 4, 3, paper)
                self.assertEqual(paper, before)

    def test_rows_changed_behind_tell_what_is_so_then(self):
        rows = [1, 0, 0]
        for paper, n, d in ((("waves", 1, rows), 3, 2), (("cut", ("waves", 1, rows)), 4, 3)):
            self.assertEqual(paper_tells(2, n, d, paper), 4)
            rows[0] = 2
            self.assertEqual(paper_tells(2, n, d, paper), 7)
            rows.append(0)
            self.assertIsNone(paper_tells(2, n, d, paper))
            del rows[3]
            rows[0] = 0
            self.assertIsNone(paper_tells(2, n, d, paper))
            rows[0] = 1
            self.assertEqual(paper_tells(2, n, d, paper), 4)

    def test_told_again_the_same(self):
        for q in (2, 3):
            papers = some_papers(q)
            first = [paper_tells(q, 5, 3, paper) for paper in papers]
            self.assertEqual([paper_tells(q, 5, 3, paper) for paper in papers], first)


if __name__ == "__main__":
    unittest.main()
