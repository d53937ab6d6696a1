"""Integers, sequences and exact fractions."""

from math import gcd, lcm


def is_whole(value):
    """Whether value is an integer; True and False are none."""
    return isinstance(value, int) and not isinstance(value, bool)


def is_whole_between(value, low, high):
    """Whether value is an integer from low to high."""
    return is_whole(value) and low <= value <= high


def is_row(value, low, high):
    """Whether value is a sequence of low to high things."""
    return isinstance(value, (list, tuple)) and low <= len(value) <= high


def is_fraction(value):
    """Whether value is a pair (top, bottom) in lowest terms, bottom above 0."""
    if not is_row(value, 2, 2):
        return False
    top, bottom = value
    if not is_whole(top) or not is_whole(bottom):
        return False
    return bottom > 0 and gcd(top, bottom) == 1


def is_fraction_between(value, low, high):
    """Whether value is a fraction from low to high."""
    return is_fraction(value) and low * value[1] <= value[0] <= high * value[1]


def lowest(top, bottom):
    """The fraction top / bottom in lowest terms, for a bottom above 0."""
    shared = gcd(top, bottom)
    return (top // shared, bottom // shared)


def common_bottom(fractions):
    """The least bottom to which all the fractions can be brought."""
    common = 1
    for fraction in fractions:
        common = lcm(common, fraction[1])
    return common


def top_over(fraction, bottom):
    """The top of the fraction when it is brought to this bottom, a multiple of its own."""
    return fraction[0] * (bottom // fraction[1])
