"""Lists by rules: the span, the checked words and the base of a row of words."""

from wordsapart.words import all_words, plus, taken


def base_and_sums(q, n, words):
    """The base of the row, in the row's order, and all sums of it, in no order."""
    chosen = []
    sums = ["0" * n]
    for word in words:
        # A word that is a sum already brings no new one, so the sums never come to more than all words.
        if word not in sums:
            chosen.append(word)
            multiples = [taken(q, word, times) for times in range(1, q)]
            sums = sums + [plus(q, held, more) for more in multiples for held in sums]
    return chosen, sums


def product(q, one, other):
    """The rest by q of the sum of the products of the signs, place by place."""
    return sum(int(here) * int(there) for here, there in zip(one, other)) % q


def span(q, n, words):
    """All sums of the words of the row, each taken any times, rising."""
    chosen, sums = base_and_sums(q, n, words)
    return sorted(sums)


def checked(q, n, words):
    """All words of length n whose product with each word of the row is 0, rising."""
    # A product with a sum is the sum of the products, so the base stands for the whole row.
    rules = base(q, n, words)
    return [word for word in all_words(q, n) if all(product(q, word, rule) == 0 for rule in rules)]


def base(q, n, words):
    """The words of the row, in its order, that are in no span of the words ahead of them."""
    chosen, sums = base_and_sums(q, n, words)
    return chosen
