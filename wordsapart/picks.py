"""Lists taken in order, and the nearest words of a list."""

from wordsapart.words import all_words, distance, gap, marks


def far_from_all(d, mark, marked):
    """Whether a word is at least d away from each of several, all told by their marks."""
    return all(gap(mark, held) >= d for held in marked)


def in_order(q, n, d):
    """All words gone through, rising, each taken that is at least d away from all taken by then."""
    return taken_on(q, n, d, [])


def taken_on(q, n, d, words):
    """Likewise, the list's words taken first; told rising."""
    chosen = list(words)
    marked = [marks(word) for word in words]
    for word in all_words(q, n):
        mark = marks(word)
        if far_from_all(d, mark, marked):
            chosen.append(word)
            marked.append(mark)
    return sorted(chosen)


def heard(words, word):
    """The distance of the nearest words of the list, and all nearest ones, rising."""
    # An empty list is beyond the bounds, here and in reach: what is told of it is not promised, but no error.
    least = min([distance(word, held) for held in words], default=0)
    return least, sorted([held for held in words if distance(word, held) == least])


def reach(q, n, words):
    """The greatest distance of a word of length n from its nearest words of the list."""
    marked = [marks(word) for word in words]
    everywhere = [marks(word) for word in all_words(q, n)]
    return max([min([gap(mark, held) for held in marked], default=0) for mark in everywhere], default=0)
