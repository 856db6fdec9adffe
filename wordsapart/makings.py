"""Makings: lists that are made of other lists, each told rising."""

from wordsapart.words import SIGNS, plus


def cut(words):
    """The words without their first signs, of words that keep apart by 2 or more."""
    return sorted([word[1:] for word in words])


def shorter(q, words):
    """The words that begin with the sign with which most begin, without it; of several such signs the least."""
    # By slices, since words without places, beyond the bounds, begin with no sign and are no error.
    begun = [word[:1] for word in words]
    # Of several greatest max tells the first, and the signs are rising: so the least one.
    first = max(SIGNS[:q], key=lambda sign: begun.count(sign))
    return sorted([word[1:] for word in words if word[:1] == first])


def closing(q, word):
    """The sign with which the sum of all signs of the word leaves the rest 0 by q."""
    return str(-sum([int(sign) for sign in word]) % q)


def longer(q, words):
    """Each word with one sign behind it, such that the sum of its signs leaves the rest 0 by q."""
    return sorted([word + closing(q, word) for word in words])


def beside(one, other):
    """The k-th word of the one with the k-th of the other behind it, both rising, as long as both have one."""
    return [front + back for front, back in zip(sorted(one), sorted(other))]


def pairs(one, other):
    """Each word of the one with each word of the other behind it."""
    return sorted([front + back for front in one for back in other])


def sums(q, one, other):
    """Each word of the one, and behind it its sum with each word of the other."""
    return sorted([front + plus(q, front, more) for front in one for more in other])
