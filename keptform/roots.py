"""Exact real numbers: fractions, and the roots of quadratic polynomials that are none.

A number is a fraction (top, bottom), or a quadruple (a, b, c, which) as the package returns it. Each number has only
one such form, so that equal numbers are equal tuples. A polynomial a * x * x + b * x + c is the triple (a, b, c).
"""

from math import gcd, isqrt

from keptform.values import lowest

NOTHING = (0, 1)
WHOLE = (1, 1)


def sign_of(whole):
    """-1, 0 or 1, as the integer is below, at or above 0."""
    if whole == 0:
        return 0
    return 1 if whole > 0 else -1


def _leads_above_0(polynomial):
    """The polynomial, or its negative, so that its first factor that is not 0 is above 0."""
    a, b, c = polynomial
    if a < 0 or (a == 0 and b < 0):
        return (-a, -b, -c)
    return (a, b, c)


def roots_of(polynomial):
    """The real numbers at which the polynomial is 0, ascending; none for a polynomial that is the same everywhere."""
    a, b, c = _leads_above_0(polynomial)
    if a == 0:
        return [] if b == 0 else [lowest(-c, b)]
    within = b * b - 4 * a * c
    if within < 0:
        return []
    if within == 0:
        return [lowest(-b, 2 * a)]
    root = isqrt(within)
    if root * root == within:
        return [lowest(-b - root, 2 * a), lowest(-b + root, 2 * a)]
    shared = gcd(gcd(a, b), c)
    return [(a // shared, b // shared, c // shared, which) for which in (0, 1)]


def _is_above(root, top, bottom):
    """Whether a root that is no fraction is above top / bottom, for a bottom above 0."""
    a, b, c, which = root
    if a * top * top + b * top * bottom + c * bottom * bottom < 0:
        # The fraction is between the two roots.
        return which == 1
    return 2 * a * top + b * bottom < 0


def _sign_at_root(polynomial, root):
    """The sign of the polynomial at a root that is no fraction."""
    a, b, c = polynomial
    # Less a multiple of the root's own polynomial, which is 0 there, the polynomial is rise * x + rest.
    rise = root[0] * b - root[1] * a
    rest = root[0] * c - root[2] * a
    if rise == 0:
        return sign_of(rest)
    if rise > 0:
        return 1 if _is_above(root, -rest, rise) else -1
    return -1 if _is_above(root, rest, -rise) else 1


def sign_at(polynomial, number):
    """The sign of the polynomial at the number."""
    if len(number) == 4:
        return _sign_at_root(polynomial, number)
    a, b, c = polynomial
    top, bottom = number
    return sign_of(a * top * top + b * top * bottom + c * bottom * bottom)


def compare(one, other):
    """-1, 0 or 1, as the one number is less than the other, the same, or greater."""
    if len(other) == 2:
        return sign_at((0, other[1], -other[0]), one)
    a, b, c, which = other
    outside = sign_at((a, b, c), one)
    if outside > 0:
        return sign_at((0, 2 * a, b), one)
    if outside < 0:
        return 1 if which == 0 else -1
    # The one is a root of the other's polynomial, hence a quadruple, too.
    return one[3] - which


def _put(ordered, number):
    """Put the number at its place among ascending ones, unless it is there."""
    at = 0
    while at < len(ordered) and compare(ordered[at], number) < 0:
        at += 1
    if at == len(ordered) or ordered[at] != number:
        ordered.insert(at, number)


def ascending(numbers):
    """The numbers, ascending, each of them once."""
    ordered = []
    for number in numbers:
        _put(ordered, number)
    return ordered


def marks_of(polynomials):
    """0, 1 and all numbers between at which one of the polynomials has a root, ascending.

    Between two neighbours no polynomial changes its sign.
    """
    numbers = [NOTHING, WHOLE]
    for polynomial in polynomials:
        numbers.extend(roots_of(polynomial))
    return ascending([number for number in numbers if compare(number, NOTHING) >= 0 and compare(number, WHOLE) <= 0])


def _whole_part(number, times):
    """The greatest integer that is not above so many times the number."""
    if len(number) == 2:
        return number[0] * times // number[1]
    a, b, c, which = number
    # The root of the square is no integer: it is between width and width + 1.
    width = isqrt((b * b - 4 * a * c) * times * times)
    if which == 1:
        return (width - b * times) // (2 * a)
    return (-width - 1 - b * times) // (2 * a)


def between(low, high):
    """A fraction that is above low and below high, for low below high."""
    bottom = 1
    while True:
        told = lowest(_whole_part(low, bottom) + 1, bottom)
        if compare(told, high) < 0:
            return told
        bottom = 2 * bottom
