"""Papers: each tells a number of words that no list that keeps apart can pass."""

from wordsapart.waves import power, ways
from wordsapart.weights import weights_right, weights_tell

# The makings that lead back to a paper for another length or distance.
LEADING = ("nearer", "cut", "shorter", "longer")


def ball(q, n, far):
    """How many words of length n differ from a word at so many places at most."""
    return sum([ways(n, places) * power(q - 1, places) for places in range(far + 1)])


def waves_tell(q, n, d, weights):
    """What the weights tell, rounded down, or None where they are not right for n and d."""
    # Above n there is no distance left at which weights could be wrong, so right ones are asked for up to n alone.
    if d > n or not weights_right(q, n, d, weights):
        return None
    top, bottom = weights_tell(q, n, weights)
    return top // bottom


def inmost_tells(q, n, d, paper):
    """What a paper that leads back to no other one tells, or None where it does not suit."""
    if paper[0] == "one":
        return 1 if d > n else None
    if paper[0] == "all":
        return power(q, n)
    if paper[0] == "balls":
        return power(q, n) // ball(q, n, (d - 1) // 2)
    return waves_tell(q, n, d, paper[1:])


def led_back(q, n, d, making):
    """The length and distance of the paper within the making, or None where the making does not suit."""
    if making == "nearer" and d >= 2:
        return n, d - 1
    if making == "cut" and n >= 2 and d >= 2:
        return n - 1, d - 1
    if making == "shorter" and n >= 2:
        return n - 1, d
    if making == "longer" and q == 2 and d % 2 == 1:
        return n + 1, d + 1
    return None


def paper_tells(q, n, d, paper):
    """The number that the paper tells for q, n and d, or None where it is none for them."""
    # From 1 on no making leads back to a length or a distance below 1, so one look at the whole paper is enough.
    if min(q, n, d) < 1:
        return None
    factor = 1
    while paper[0] in LEADING:
        place = led_back(q, n, d, paper[0])
        if place is None:
            return None
        if paper[0] == "shorter":
            factor *= q
        n, d = place
        paper = paper[1]
    told = inmost_tells(q, n, d, paper)
    return None if told is None else factor * told
