"""Vectors in the plane: pairs (x, y) of integers."""


def step(start, end):
    """The vector that leads from a place to another one."""
    return (end[0] - start[0], end[1] - start[1])


def cross_product(one, other):
    """Above 0 if the other vector points to the left of the one, below 0 if to the right, 0 if along the same line."""
    return one[0] * other[1] - one[1] * other[0]


def dot_product(one, other):
    """Above 0 if the vectors point to the same half of the plane, below 0 if to opposite halves."""
    return one[0] * other[0] + one[1] * other[1]
