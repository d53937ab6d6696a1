"""What several tests need: checks, and slow answers that follow the words of DOC.md, independent of the package."""

import unittest
from fractions import Fraction
from itertools import combinations
from math import gcd, isqrt

from keptform.errors import BadValue


ODD_VALUES = (None, True, 0, 1, 10 ** 30, "", "abc", (), [], ((),), ("abc",), (("ab", "cd", "ef"),), ((1, 2, 3),))


def as_lists(value):
    return [as_lists(part) for part in value] if isinstance(value, (list, tuple)) else value


class Case(unittest.TestCase):
    def refused(self, at, call, *args):
        with self.assertRaises(BadValue) as caught:
            call(*args)
        self.assertIs(type(caught.exception), BadValue)
        self.assertEqual(caught.exception.at, at)

    def plain(self, value):
        """Only plain tuples, strings, None and integers, at every level."""
        if isinstance(value, (list, tuple)):
            self.assertIs(type(value), tuple)
            for part in value:
                self.plain(part)
        elif not isinstance(value, str) and value is not None:
            self.assertIs(type(value), int)

    def number(self, value):
        """Told as promise 13 says: a fraction in lowest terms, or a root that is none."""
        self.plain(value)
        if len(value) == 2:
            self.assertGreater(value[1], 0)
            self.assertEqual(gcd(*value), 1)
        else:
            a, b, c, which = value
            self.assertGreater(a, 0)
            self.assertEqual(gcd(a, b, c), 1)
            self.assertIn(which, (0, 1))
            within = b * b - 4 * a * c
            self.assertGreater(within, 0)
            self.assertNotEqual(isqrt(within) ** 2, within)


class Surd:
    """The exact number whole + part * root of within; all numbers of one sum or product have the same root."""

    def __init__(self, whole, part, within):
        self.whole, self.part, self.within = Fraction(whole), Fraction(part), within

    def like(self, other):
        return other if isinstance(other, Surd) else Surd(other, 0, self.within)

    def sign(self):
        low, high = self.whole, self.part
        if low * high >= 0:
            return (low + high > 0) - (low + high < 0)
        larger = low if low * low > high * high * self.within else high
        return (larger > 0) - (larger < 0)

    def __add__(self, other):
        other = self.like(other)
        return Surd(self.whole + other.whole, self.part + other.part, self.within)

    def __mul__(self, other):
        other = self.like(other)
        return Surd(self.whole * other.whole + self.part * other.part * self.within,
                    self.whole * other.part + self.part * other.whole, self.within)

    def __neg__(self):
        return self * -1

    def __sub__(self, other):
        return self + -self.like(other)

    def __rsub__(self, other):
        return -self + other

    def __truediv__(self, other):
        other = self.like(other)
        below = other.whole ** 2 - other.part ** 2 * other.within
        return self * Surd(other.whole / below, -other.part / below, self.within)

    def __rtruediv__(self, other):
        return self.like(other) / self

    def __eq__(self, other):
        return (self - other).sign() == 0

    def __lt__(self, other):
        return (self - other).sign() < 0

    def __le__(self, other):
        return (self - other).sign() <= 0

    def __gt__(self, other):
        return (self - other).sign() > 0

    def __ge__(self, other):
        return (self - other).sign() >= 0

    def __bool__(self):
        return self.sign() != 0

    __radd__, __rmul__ = __add__, __mul__
    __hash__ = None

    def near(self):
        """A fraction that is at most 10 ** -40 away from it, for small numbers."""
        return self.whole + self.part * Fraction(isqrt(self.within * 10 ** 120), 10 ** 60)


def exact_number(told):
    """A number as the package tells it, as a Fraction or a Surd."""
    if len(told) == 2:
        return Fraction(*told)
    a, b, c, which = told
    return Surd(Fraction(-b, 2 * a), Fraction(2 * which - 1, 2 * a), b * b - 4 * a * c)


def near(number):
    return number.near() if isinstance(number, Surd) else Fraction(number)


def slow_roots(a, b, c):
    """The real roots of a * x * x + b * x + c, as Fractions or Surds; none if it is the same everywhere."""
    if a == 0:
        return [Fraction(-c) / b] if b else []
    within = b * b - 4 * a * c
    if within < 0:
        return []
    if isqrt(within) ** 2 == within:
        return [Fraction(-b + sign * isqrt(within), 2 * a) for sign in (-1, 1)]
    return [Surd(Fraction(-b, 2 * a), Fraction(sign, 2 * a), within) for sign in (-1, 1)]


def corners_of(letter):
    return [(r, k) for r, row in enumerate(letter) for k in range(len(row))]


def ends_of(letter, side):
    r, k = side
    return [side, (r, 0 if k + 1 == len(letter[r]) else k + 1)]


def pairs_of(letter):
    """All corners with all sides of which they are no ends."""
    return [(corner, side) for corner in corners_of(letter) for side in corners_of(letter)
            if corner not in ends_of(letter, side)]


def as_exact(worth):
    return worth if isinstance(worth, Surd) else Fraction(worth)


def places_of(drawing):
    """The exact places of a drawing of integers, Fractions or Surds, by corners."""
    return {(r, k): tuple(as_exact(worth) for worth in place)
            for r, row in enumerate(drawing) for k, place in enumerate(row)}


def slow_mixture(masters, weights):
    """The mixture, by weights that are integers, Fractions or Surds, which are together 1."""
    return tuple(tuple(tuple(sum(w * place[c] for w, place in zip(weights, places)) for c in range(2))
                       for places in zip(*rings)) for rings in zip(*masters))


def share_of(place, start, end):
    """The share of the side at which the place lies, or None; the side has not fallen."""
    axis = 0 if start[0] != end[0] else 1
    share = (place[axis] - start[axis]) / (end[axis] - start[axis])
    for c in range(2):
        if (1 - share) * start[c] + share * end[c] != place[c]:
            return None
    return share if 0 <= share <= 1 else None


def lies_on(place, start, end):
    return place == start if start == end else share_of(place, start, end) is not None


def common_inner_place(a, b, c, d):
    """Whether the sides a b and c d, of which none has fallen, have a place in common that is an end of neither."""
    ab, cd, ac = [(q[0] - p[0], q[1] - p[1]) for p, q in ((a, b), (c, d), (a, c))]
    whole = ab[0] * cd[1] - ab[1] * cd[0]
    if whole:
        s = as_exact(ac[0] * cd[1] - ac[1] * cd[0]) / whole
        t = as_exact(ac[0] * ab[1] - ac[1] * ab[0]) / whole
        return 0 < s < 1 and 0 < t < 1
    if ac[0] * ab[1] != ac[1] * ab[0]:
        return False
    axis = 0 if ab[0] else 1
    low = max(min(a[axis], b[axis]), min(c[axis], d[axis]))
    high = min(max(a[axis], b[axis]), max(c[axis], d[axis]))
    return low < high


def slow_turn(letter, at, corner):
    r, k = corner
    (x0, y0), (x1, y1), (x2, y2) = at[r, (k or len(letter[r])) - 1], at[corner], at[ends_of(letter, corner)[1]]
    return (x1 - x0) * (y2 - y1) - (y1 - y0) * (x2 - x1)


def slow_fallen(letter, drawing):
    at = places_of(drawing)
    return [side for side in sorted(at) if at[side] == at[ends_of(letter, side)[1]]]


def slow_meetings(letter, drawing):
    at = places_of(drawing)
    return [(corner, side) for corner, side in pairs_of(letter)
            if lies_on(at[corner], *[at[end] for end in ends_of(letter, side)])]


def slow_bent(letter, drawing):
    at = places_of(drawing)
    found = []
    for corner in sorted(at):
        worth = slow_turn(letter, at, corner)
        sign = "left" if worth > 0 else "right" if worth < 0 else "straight"
        if letter[corner[0]][corner[1]] not in ("any", sign):
            found.append(corner)
    return found


def slow_fault(letter, drawing):
    """What DOC.md says of fault, point by point."""
    for side in slow_fallen(letter, drawing):
        return ("fall", side)
    for corner, side in slow_meetings(letter, drawing):
        return ("touch", corner, side)
    at = places_of(drawing)
    sides = {side: [at[end] for end in ends_of(letter, side)] for side in corners_of(letter)}
    for side in sorted(sides):
        for other in sorted(sides):
            if other != side and common_inner_place(*sides[side], *sides[other]):
                return ("cross", side, other)
    for corner in slow_bent(letter, drawing):
        return ("bend", corner)
    return None


def weights_for_zero(vectors):
    """Weights by which the mean of the vectors is zero, or None: at most three of them are above 0."""
    for many in (1, 2, 3):
        for chosen in combinations(range(len(vectors)), many):
            parts = _parts_for_zero([vectors[k] for k in chosen])
            if parts is not None:
                weights = [Fraction(0)] * len(vectors)
                for k, part in zip(chosen, parts):
                    weights[k] = part / sum(parts)
                return weights
    return None


def _parts_for_zero(vectors):
    """Numbers above 0, times which one to three vectors are together zero, or None; fewer vectors are no such."""
    if len(vectors) == 1:
        return None if vectors[0][0] or vectors[0][1] else [Fraction(1)]
    if len(vectors) == 2:
        (a, b), (c, d) = vectors
        along = a * c + b * d
        return [as_exact(c * c + d * d), as_exact(-along)] if a * d == b * c and along < 0 else None
    (a, b), (c, d), (e, f) = vectors
    parts = [as_exact(c * f - d * e), as_exact(e * b - f * a), as_exact(a * d - b * c)]
    for sign in (1, -1):
        if all(sign * part > 0 for part in parts):
            return [sign * part for part in parts]
    return None


def weights_for_share(letter, masters, corner, side, share):
    """Weights of a mixture in which the corner has the place of the side's share, or None."""
    first, last = ends_of(letter, side)
    vectors = []
    for master in masters:
        at = places_of(master)
        vectors.append([at[corner][c] - ((1 - share) * at[first][c] + share * at[last][c]) for c in range(2)])
    return weights_for_zero(vectors)


def spots_to_try(one, other):
    """Spots from 0 to 1: all at which what is told of the form may change, and one between each two neighbours."""
    at = [places_of(one), places_of(other)]
    changes = [Fraction(0), Fraction(1)]
    for p, q, r in combinations(sorted(at[0]), 3):
        changes.extend(slow_roots(*_polynomial([_turn_at(at, p, q, r, spot) for spot in (0, 1, 2)])))
    for p, q in combinations(sorted(at[0]), 2):
        for c in range(2):
            low, high = [at[k][p][c] - at[k][q][c] for k in (0, 1)]
            changes.extend(slow_roots(0, int(high - low), int(low)))
    changes = sorted([spot for spot in changes if 0 <= spot <= 1], key=near)
    kept = changes[:1]
    for spot in changes[1:]:
        if near(spot) - near(kept[-1]) > Fraction(1, 10 ** 30):
            kept.append(spot)
    return kept + [(near(low) + near(high)) / 2 for low, high in zip(kept, kept[1:])]


def _turn_at(at, p, q, r, spot):
    (x0, y0), (x1, y1), (x2, y2) = [[(1 - spot) * at[0][k][c] + spot * at[1][k][c] for c in range(2)]
                                    for k in (p, q, r)]
    return int((x1 - x0) * (y2 - y1) - (y1 - y0) * (x2 - x1))


def _polynomial(worths):
    """The integers (a, b, c) of the polynomial that has these worths at 0, 1 and 2."""
    a = (worths[2] - 2 * worths[1] + worths[0]) // 2
    return a, worths[1] - worths[0] - a, worths[0]


def exact_drawing(mixed):
    """A drawing of pairs (top, bottom) as one of Fractions."""
    return tuple(tuple(tuple(Fraction(*worth) for worth in place) for place in row) for row in mixed)


def random_drawing(chance, letter, width):
    return tuple(tuple((chance.randint(-width, width), chance.randint(-width, width)) for _ in row) for row in letter)


def nearby(chance, drawing, width):
    """The drawing with each corner moved a little, within -99 to 99."""
    return tuple(tuple(tuple(max(-99, min(99, worth + chance.randint(-width, width))) for worth in place)
                       for place in row) for row in drawing)


def usual_manners(chance, letter, drawing):
    """The letter with other manners, most of them as the drawing turns."""
    at = places_of(drawing)
    rows = [[slow_turn(letter, at, (r, k)) for k in range(len(row))] for r, row in enumerate(letter)]
    signs = [["left" if worth > 0 else "right" if worth < 0 else "straight" for worth in row] for row in rows]
    return tuple(tuple(chance.choice(("any", sign, sign, "left")) for sign in row) for row in signs)


def grid(many, steps):
    """Weights for so many masters, in so many equal steps."""
    def rows(many, left):
        if many == 1:
            return [[left]]
        return [[first] + rest for first in range(left + 1) for rest in rows(many - 1, left - first)]
    return [tuple(Fraction(top, steps) for top in row) for row in rows(many, steps)]
