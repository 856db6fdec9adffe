"""What the tests share: the kinds of values, and the definitions reckoned the long way."""

from itertools import product
from math import comb, gcd

SIZES = [(2, n) for n in range(1, 9)] + [(3, n) for n in range(1, 6)]
SMALL_SIZES = [(2, 1), (2, 2), (2, 3), (2, 4), (3, 1), (3, 2), (3, 3)]


def every_word(q, n):
    return ["".join(signs) for signs in product("012"[:q], repeat=n)]


def differing(one, other):
    assert len(one) == len(other)
    return len([at for at in range(len(one)) if one[at] != other[at]])


def slow_sum(q, n, words, times):
    """The sum of the words, each taken so many times."""
    columns = [sum(int(word[at]) * many for word, many in zip(words, times)) for at in range(n)]
    return "".join(str(column % q) for column in columns)


def slow_span(q, n, words):
    """By the words of the definition: for few words alone."""
    return sorted({slow_sum(q, n, words, times) for times in product(range(q), repeat=len(words))})


def slow_product(q, one, other):
    return sum(int(a) * int(b) for a, b in zip(one, other)) % q


def slow_checked(q, n, words):
    return [word for word in every_word(q, n) if all(slow_product(q, word, rule) == 0 for rule in words)]


def slow_base(q, n, words):
    return [word for at, word in enumerate(words) if word not in slow_span(q, n, words[:at])]


def spread_row(q, n, many, step):
    """A row of so many words that leaps through all words, some alike where there are more than those."""
    words = every_word(q, n)
    return [words[(step * k * k + 5 * k + 1) % len(words)] for k in range(many)]


def is_whole(value):
    return type(value) is int


def is_word(q, n, value):
    return type(value) is str and len(value) == n and set(value) <= set("012"[:q])


def is_words(q, n, value):
    return type(value) is list and all(is_word(q, n, word) for word in value)


def is_rising(words):
    return all(words[at] < words[at + 1] for at in range(len(words) - 1))


def some_lists(q, n):
    """Lists of unlike words: none, one, several in any order, all."""
    words = every_word(q, n)
    spread = list(dict.fromkeys(spread_row(q, n, 12, 7)))
    return [[], [words[0]], [words[-1]], [words[-1], words[0]], spread, spread[::-1], words[::3], words[::-2], words]


def slow_apart(words):
    """The least distance, or None where there are fewer than two words."""
    gaps = [differing(one, other) for at, one in enumerate(words) for other in words[:at]]
    return min(gaps, default=None)


def far_list(q, n, d, start=0):
    """Words each two of which are at least d apart, in no order, taken by leaps from a starting place on."""
    words = every_word(q, n)
    chosen = []
    for k in range(len(words)):
        # 7 has no divisor in common with any power of 2 or 3, so each word comes once.
        word = words[(start + 7 * k) % len(words)]
        if all(differing(word, held) >= d for held in chosen):
            chosen.append(word)
    return chosen


def is_whole_list(value):
    return type(value) is list and all(is_whole(number) for number in value)


def is_fraction(value):
    """A tuple of two whole numbers in lowest terms, the bottom from 1 on."""
    if type(value) is not tuple or len(value) != 2 or not all(is_whole(number) for number in value):
        return False
    return value[1] >= 1 and gcd(value[0], value[1]) == 1


def slow_wave(q, n, k, i):
    """By the words of the definition."""
    return sum((-1) ** j * (q - 1) ** (k - j) * comb(i, j) * comb(n - i, k - j) for j in range(k + 1))


def slow_counts(n, words):
    told = [differing(one, other) for one in words for other in words]
    return [told.count(i) for i in range(n + 1)]


def slow_swells(q, n, words):
    told = slow_counts(n, words)
    return [sum(told[i] * slow_wave(q, n, k, i) for i in range(n + 1)) for k in range(n + 1)]


def slow_right(q, n, d, weights):
    """Whether weights are right, d from 1 to n, by the words of the definition."""
    times, rows = weights
    if times < 1 or len(rows) != n or min(rows) < 0:
        return False
    return max(slow_level(q, n, weights, i) for i in range(d, n + 1)) <= 0


def slow_level(q, n, weights, i):
    """Times and the sum of the rows, each taken wave number times."""
    times, rows = weights
    return times + sum(rows[k - 1] * slow_wave(q, n, k, i) for k in range(1, n + 1))


def slow_paper(q, n, d, paper):
    """What a paper tells, or None, by the words of the definition."""
    name, *rest = paper
    if name == "one":
        return 1 if d > n else None
    if name == "all":
        return q ** n
    if name == "balls":
        return q ** n // sum(comb(n, j) * (q - 1) ** j for j in range((d - 1) // 2 + 1))
    if name == "waves":
        return slow_level(q, n, rest, 0) // rest[0] if d <= n and slow_right(q, n, d, rest) else None
    if name == "nearer":
        return slow_paper(q, n, d - 1, rest[0]) if d >= 2 else None
    if name == "cut":
        return slow_paper(q, n - 1, d - 1, rest[0]) if n >= 2 and d >= 2 else None
    if name == "longer":
        return slow_paper(q, n + 1, d + 1, rest[0]) if q == 2 and d % 2 == 1 else None
    assert name == "shorter"
    within = slow_paper(q, n - 1, d, rest[0]) if n >= 2 else None
    return None if within is None else q * within


def wrapped(makings, paper):
    """The paper within the makings, the first one outmost."""
    for making in reversed(makings):
        paper = (making, paper)
    return paper


def is_paper(value):
    """Whether a value is a paper of at most twelve makings, in kinds and shape."""
    for makings in range(12):
        if type(value) is not tuple or len(value) == 0 or type(value[0]) is not str:
            return False
        if value[0] not in ("nearer", "cut", "shorter", "longer"):
            break
        if len(value) != 2:
            return False
        value = value[1]
    if value[0] == "waves":
        return len(value) == 3 and is_whole(value[1]) and is_whole_list(value[2])
    return value in (("one",), ("all",), ("balls",))


def rows_within(paper):
    """The lists that stand in a paper: its rows, or none."""
    while len(paper) == 2:
        paper = paper[1]
    return [paper[2]] if paper[0] == "waves" else []


def largest(words, d):
    """How many of the words can be chosen that are at least d apart: for few words alone."""
    if len(words) == 0:
        return 0
    first, rest = words[0], words[1:]
    taking = 1 + largest([word for word in rest if differing(first, word) >= d], d)
    # Where all words were taken, leaving the first one out is of no use.
    return max(taking, largest(rest, d)) if taking <= len(rest) else taking
