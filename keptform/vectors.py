"""Vectors in the plane: pairs (x, y) of integers.

A moving vector is given by (rate, start), two vectors: at the number t it is start + t * rate.
"""


def step(start, end):
    """The vector that leads from a place to another one."""
    return (end[0] - start[0], end[1] - start[1])


def cross_product(one, other):
    """Above 0 if the other vector points to the left of the one, below 0 if to the right, 0 if along the same line."""
    return one[0] * other[1] - one[1] * other[0]


def dot_product(one, other):
    """Above 0 if the vectors point to the same half of the plane, below 0 if to opposite halves."""
    return one[0] * other[0] + one[1] * other[1]


def moving_product(multiply, one, other):
    """The product of two moving vectors, as a polynomial (a, b, c) of the number: a * t * t + b * t + c."""
    rate, start = one
    other_rate, other_start = other
    return (multiply(rate, other_rate), multiply(rate, other_start) + multiply(start, other_rate),
            multiply(start, other_start))
