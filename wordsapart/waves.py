"""Waves: the wave numbers and the swells of lists."""

from wordsapart.words import counts


def ways(many, some):
    """In how many ways some of many things are chosen."""
    if some < 0 or some > many:
        return 0
    # Choosing the ones that are left comes to the same, and the fewer take fewer steps.
    fewer = min(some, many - some)
    told = 1
    for step in range(1, fewer + 1):
        told = told * (many - fewer + step) // step
    return told


def power(number, times):
    """The number multiplied so many times with itself."""
    told = 1
    for step in range(times):
        told *= number
    return told


def wave_part(q, n, k, i, j):
    """What is added for j: by the words of weight k of which j signs that are not 0 stand at i chosen places."""
    part = power(q - 1, k - j) * ways(i, j) * ways(n - i, k - j)
    return part if j % 2 == 0 else -part


def wave(q, n, k, i):
    """The wave number of q, n, k and i."""
    return sum([wave_part(q, n, k, i, j) for j in range(k + 1)])


def swells(q, n, words):
    """At each place k the sum of the counts at all i, each taken as often as the wave number tells."""
    told = counts(n, words)
    return [sum([many * wave(q, n, k, i) for i, many in enumerate(told)]) for k in range(n + 1)]
