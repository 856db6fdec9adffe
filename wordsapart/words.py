"""Words, their distances and weights, and sums of words."""

SIGNS = "012"
# How long words are at most, by how many signs there are.
LONGEST = {2: 8, 3: 5}


def all_words(q, n):
    """All words of length n with q signs, rising."""
    words = [""]
    for place in range(n):
        words = [word + sign for word in words for sign in SIGNS[:q]]
    return words


def distance(one, other):
    """At how many places two words of one length differ."""
    return sum(1 for here, there in zip(one, other) if here != there)


def weight(word):
    """How many signs of the word are not 0."""
    return len(word) - word.count("0")


def marks(word):
    """The word as a number with a bit for each place and sign, of which it has one at each place."""
    number = 0
    for sign in word:
        number = (number << len(SIGNS)) + (1 << int(sign))
    return number


def gap(one, other):
    """The distance of two words, told by their marks."""
    # Long lists have millions of pairs, and comparing marks is much faster than comparing sign by sign.
    # Each place at which the words differ leaves two bits: the one's sign and the other's.
    unlike = f"{one ^ other:b}"
    return unlike.count("1") // 2


def nearest_ahead(marked, at):
    """The least distance from the word at a place, from 1 on, to the words ahead of it."""
    return min([gap(marked[at], other) for other in marked[:at]])


def apart(words):
    """The least distance of two words of the list, or None where it has fewer than two."""
    marked = [marks(word) for word in words]
    return min([nearest_ahead(marked, at) for at in range(1, len(marked))], default=None)


def keeps(words, d):
    """Whether no two words of the list are nearer than d."""
    marked = [marks(word) for word in words]
    return all(nearest_ahead(marked, at) >= d for at in range(1, len(marked)))


def counts(n, words):
    """At each place i from 0 to n how many ordered pairs of words of the list have the distance i."""
    marked = [marks(word) for word in words]
    # All words of a length below nought are the empty one, which is nought away from itself.
    told = [0] * (max(n, 0) + 1)
    for one in marked:
        for other in marked:
            told[gap(one, other)] += 1
    return told


def plus(q, one, other):
    """The sum of two words, place by place."""
    return "".join(str((int(here) + int(there)) % q) for here, there in zip(one, other))


def taken(q, word, times):
    """The word taken so many times, place by place."""
    return "".join(str(int(sign) * times % q) for sign in word)
