"""The greatest sum of numbers within bounds, in whole numbers alone (the simplex method).

Rows of whole numbers stand for rows of fractions with one bottom, the scale. Each row is a bound: the entries of the
numbers that are looked for, then those of the bounds' slacks, and the limit at the end. The last row is the goal.
"""


def first_rows(bounds, limits):
    """The rows at first, where all numbers are nought; the goal's last."""
    many = len(limits)
    rows = []
    for at, bound in enumerate(bounds):
        slacks = [0] * many
        slacks[at] = 1
        rows.append(bound + slacks + [limits[at]])
    goal = [-1] * len(bounds[0]) + [0] * (many + 1)
    rows.append(goal)
    return rows


def entering(goal):
    """The first column by which the sum still rises, or None."""
    # Always the first: so no choice of held columns comes again, and the search ends (Bland's rule).
    for at, entry in enumerate(goal[:-1]):
        if entry < 0:
            return at
    return None


def sooner(rows, held, column, one, other):
    """Whether the one row bounds the column more than the other, or as much and its held column is less."""
    here = rows[one][-1] * rows[other][column]
    there = rows[other][-1] * rows[one][column]
    return here < there or (here == there and held[one] < held[other])


def leaving(rows, held, column):
    """The row that bounds the column most; of several the one whose held column is the least."""
    # There is one: a column that no row bounds would let the sum grow without an end.
    bounding = [at for at in range(len(held)) if rows[at][column] > 0]
    best = bounding[0]
    for at in bounding[1:]:
        if sooner(rows, held, column, at, best):
            best = at
    return best


def turned(rows, scale, at, column):
    """The rows once the column is held by the row at that place; their scale is then its entry there."""
    chosen = rows[at]
    pivot = chosen[column]
    told = []
    for place, row in enumerate(rows):
        if place == at:
            told.append(row)
        else:
            # Each entry is a determinant of first entries, so the old scale divides it without a rest.
            times = row[column]
            told.append([(entry * pivot - times * other) // scale for entry, other in zip(row, chosen)])
    return told


def reached(rows, held, width):
    """The numbers that are looked for, as the rows tell them: nought where none holds one."""
    numbers = [0] * width
    for at, column in enumerate(held):
        if column < width:
            numbers[column] = rows[at][-1]
    return numbers


def greatest_sum(bounds, limits):
    """Numbers from nought on, within the bounds, with the greatest sum, and a price for each bound.

    Each bound is a list of whole numbers: the numbers, each taken so many times, come to at most its limit, which is
    not below nought. Together the bounds must hold the sum. Told are (scale, numbers, prices), to be divided by the
    scale. The prices are from nought on and show that no sum is greater: the bounds, each taken its price times, come
    to 1 at least for each number, and the limits likewise to the very sum.
    """
    width = len(bounds[0])
    rows = first_rows(bounds, limits)
    held = [width + at for at in range(len(limits))]
    scale = 1
    column = entering(rows[-1])
    while column is not None:
        at = leaving(rows, held, column)
        pivot = rows[at][column]
        rows = turned(rows, scale, at, column)
        scale = pivot
        held[at] = column
        column = entering(rows[-1])
    return scale, reached(rows, held, width), rows[-1][width:-1]
