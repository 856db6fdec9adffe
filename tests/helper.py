"""What the tests share: the kinds of values, and the definitions reckoned the long way."""

from itertools import product

SIZES = [(2, n) for n in range(1, 9)] + [(3, n) for n in range(1, 6)]
SMALL_SIZES = [(2, 1), (2, 2), (2, 3), (2, 4), (3, 1), (3, 2), (3, 3)]


def every_word(q, n):
    return ["".join(signs) for signs in product("012"[:q], repeat=n)]


def differing(one, other):
    assert len(one) == len(other)
    return len([at for at in range(len(one)) if one[at] != other[at]])


def slow_sum(q, n, words, times):
    """The sum of the words, each taken so many times."""
    columns = [sum(int(word[at]) * many for word, many in zip(words, times)) for at in range(n)]
    return "".join(str(column % q) for column in columns)


def slow_span(q, n, words):
    """By the words of the definition: for few words alone."""
    return sorted({slow_sum(q, n, words, times) for times in product(range(q), repeat=len(words))})


def slow_product(q, one, other):
    return sum(int(a) * int(b) for a, b in zip(one, other)) % q


def slow_checked(q, n, words):
    return [word for word in every_word(q, n) if all(slow_product(q, word, rule) == 0 for rule in words)]


def slow_base(q, n, words):
    return [word for at, word in enumerate(words) if word not in slow_span(q, n, words[:at])]


def spread_row(q, n, many, step):
    """A row of so many words that leaps through all words, some alike where there are more than those."""
    words = every_word(q, n)
    return [words[(step * k * k + 5 * k + 1) % len(words)] for k in range(many)]


def is_whole(value):
    return type(value) is int


def is_word(q, n, value):
    return type(value) is str and len(value) == n and set(value) <= set("012"[:q])


def is_words(q, n, value):
    return type(value) is list and all(is_word(q, n, word) for word in value)


def is_rising(words):
    return all(words[at] < words[at + 1] for at in range(len(words) - 1))
