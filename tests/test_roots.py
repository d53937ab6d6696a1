"""Promise 13: numbers that are returned, exact and each in one form only."""

import random
import unittest
from fractions import Fraction

from helpers import Case, exact_number, near, slow_roots
from keptform.roots import ascending, between, compare, roots_of, sign_at


class RootsTest(Case):
    def test_fractions(self):
        self.assertEqual(roots_of((2, -3, 1)), [(1, 2), (1, 1)])
        self.assertEqual(roots_of((-2, 3, -1)), [(1, 2), (1, 1)])
        self.assertEqual(roots_of((4, 4, 1)), [(-1, 2)])
        self.assertEqual(roots_of((6, 0, 0)), [(0, 1)])
        self.assertEqual(roots_of((0, -6, 4)), [(2, 3)])
        self.assertEqual(roots_of((0, 6, 0)), [(0, 1)])

    def test_quadruples(self):
        self.assertEqual(roots_of((1, 0, -2)), [(1, 0, -2, 0), (1, 0, -2, 1)])
        self.assertEqual(roots_of((-6, 36, -6)), [(1, -6, 1, 0), (1, -6, 1, 1)])
        self.assertEqual(roots_of((4, -4, -2)), [(2, -2, -1, 0), (2, -2, -1, 1)])

    def test_none(self):
        for polynomial in ((0, 0, 0), (0, 0, 5), (1, 0, 1), (-3, 1, -1)):
            self.assertEqual(roots_of(polynomial), [])

    def test_signs_at_a_root_of_another_polynomial(self):
        low, high = roots_of((1, 0, -2))
        for polynomial, signs in (((1, 0, -2), (0, 0)), ((2, 0, -4), (0, 0)), ((0, 1, 0), (-1, 1)), ((0, 0, 3), (1, 1)),
                                  ((0, 0, 0), (0, 0)), ((0, 0, -3), (-1, -1)), ((0, 5, -7), (-1, 1)),
                                  ((0, -5, 7), (1, -1)), ((0, 29, -41), (-1, 1)), ((0, 70, -99), (-1, -1)),
                                  ((0, 5, 7), (-1, 1)), ((0, 5, 8), (1, 1)), ((1, 1, 0), (1, 1)), ((1, 2, 0), (-1, 1)),
                                  ((1, 0, -3), (-1, -1)), ((-1, 0, 3), (1, 1))):
            self.assertEqual((sign_at(polynomial, low), sign_at(polynomial, high)), signs, polynomial)

    def test_very_near_numbers(self):
        root = roots_of((1, 0, -2))[1]
        # 1 / 10 ** 30 apart, and more
        top, bottom = 1, 1
        for _ in range(90):
            top, bottom = top + 2 * bottom, top + bottom
            other = (top, bottom)
            answer = 1 if top * top < 2 * bottom * bottom else -1
            self.assertEqual(compare(root, other), answer)
            self.assertEqual(compare(other, root), -answer)
            low, high = (root, other) if answer < 0 else (other, root)
            told = between(low, high)
            self.number(told)
            self.assertEqual((compare(low, told), compare(told, high)), (-1, -1))

    def test_like_slow_ones(self):
        chance = random.Random(1)
        for _ in range(300):
            width = chance.choice((2, 6, 50, 10 ** 6))
            numbers = []
            for _ in range(3):
                polynomial = [chance.randint(-width, width) for _ in range(3)]
                told = roots_of(polynomial)
                slow = sorted({near(number) for number in slow_roots(*polynomial)})
                self.assertEqual(len(told), len(slow))
                for number, worth in zip(told, slow):
                    self.assertLess(abs(near(exact_number(number)) - worth), Fraction(1, 10 ** 40))
                for number in told:
                    self.number(number)
                    for other in numbers + told:
                        sign = near(exact_number(number)) - near(exact_number(other))
                        self.assertEqual(compare(number, other), (sign > 0) - (sign < 0))
                    self.assertEqual(sign_at(polynomial, number), 0)
                numbers.extend(told)
            self.follow(numbers)

    def follow(self, numbers):
        """They come ascending, each once, with a fraction between each two."""
        told = ascending(numbers + numbers[:2])
        self.assertEqual(sorted(told), sorted(set(numbers)))
        worths = [near(exact_number(number)) for number in told]
        self.assertEqual(worths, sorted(worths))
        for low, high, one, other in zip(worths, worths[1:], told, told[1:]):
            middle = between(one, other)
            self.number(middle)
            self.assertTrue(low < Fraction(*middle) < high)


if __name__ == "__main__":
    unittest.main()
