"""Weights over waves: what they tell of the number of words, the least they can tell, and what equality asks."""

from wordsapart.ratios import common, lowest
from wordsapart.simplex import greatest_sum
from wordsapart.waves import swells, wave
from wordsapart.words import counts


def level(q, n, weights, i):
    """Times and the sum of the rows, each taken as often as its wave number at i tells."""
    times, rows = weights
    return times + sum([row * wave(q, n, k, i) for k, row in enumerate(rows, start=1)])


def weights_right(q, n, d, weights):
    """Whether the weights are such, and their level is at most nought from d to n."""
    times, rows = weights
    if times < 1 or len(rows) != n or any(row < 0 for row in rows):
        return False
    return all(level(q, n, weights, i) <= 0 for i in range(d, n + 1))


def weights_tell(q, n, weights):
    """The fraction that the weights tell."""
    times, rows = weights
    # Beyond the bounds, where times are below 1, no fraction is promised; what is told is one all the same.
    return lowest(level(q, n, weights, 0), max(times, 1))


def plain_weights(times, rows):
    """The same weights by the least whole numbers."""
    divisor = times
    for row in rows:
        divisor = common(row, divisor)
    return times // divisor, [row // divisor for row in rows]


def least_weights(q, n, d):
    """The least fraction that right weights tell, weights that tell it, and shares that show that none tell less."""
    if min(q, n) < 1:
        # Without signs or places there is one word at most, and no wave to bound it.
        return (1, 1), (1, [0] * n), [(1, 1)] + [(0, 1)] * n
    # Below 1 each distance asks of unlike words what 1 does, and above n each what n + 1 does.
    d = min(max(d, 1), n + 1)
    # The shares from d on are as great as the waves allow; the prices of the waves' bounds are then the weights.
    bounds = [[-wave(q, n, k, i) for i in range(d, n + 1)] for k in range(1, n + 1)]
    limits = [wave(q, n, k, 0) for k in range(1, n + 1)]
    scale, numbers, prices = greatest_sum(bounds, limits)
    value = lowest(scale + sum(numbers), scale)
    shares = [(1, 1)] + [(0, 1)] * (d - 1) + [lowest(number, scale) for number in numbers]
    return value, plain_weights(scale, prices), shares


def equality(q, n, d, words, weights):
    """Whether the list has just what the weights tell, and the places at which it misses what equality asks."""
    times, rows = weights
    top, bottom = weights_tell(q, n, weights)
    meets = len(words) * bottom == top
    high = swells(q, n, words)
    many = counts(n, words)
    # Rows may be fewer or more than n, and d below 1: then what there is of both is looked at.
    swelling = [k for k, (row, swell) in enumerate(zip(rows, high[1:]), start=1) if row != 0 and swell != 0]
    counted = [i for i in range(max(d, 1), n + 1) if many[i] != 0 and level(q, n, weights, i) < 0]
    return meets, swelling, counted
