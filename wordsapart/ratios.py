"""Fractions in lowest terms."""


def common(one, other):
    """The greatest whole number by which both can be divided, where the other is from 1 on."""
    while other != 0:
        one, other = other, one % other
    return one


def lowest(top, bottom):
    """The fraction in lowest terms, where the bottom is from 1 on."""
    divisor = common(top, bottom)
    return top // divisor, bottom // divisor
