"""Promises 11 and 13 to 17: letters, drawings, mixtures."""

import copy
import random
import unittest
from fractions import Fraction
from math import gcd

from helpers import Case, as_lists
from keptform.letters import is_drawing, is_letter, mixture

ODD_VALUES = (None, True, False, 0, 1, -1, 10 ** 30, "", "any", "left\n", (), [], ("left",), ((),), [[]], (((),),),
              ("any", "any", "any"), [["left"] * 3, None], (("left", "left"),))

LETTER = (("left", "any", "right"),)
ONE = (((0, 0), (4, 0), (0, 4)),)
OTHER = (((1, 0), (-99, 99), (2, 5)),)


def ring(many, manner="any"):
    return (manner,) * many


def drawing_of(letter, place=(3, -7)):
    return tuple(tuple(place for _ in row) for row in letter)


class LetterTest(Case):
    def yes(self, value):
        self.assertIs(is_letter(value), True)

    def no(self, value):
        self.assertIs(is_letter(value), False)

    def test_every_manner(self):
        for manner in ("any", "left", "right", "straight"):
            self.yes((ring(3, manner),))
        self.yes((("any", "left", "right", "straight"),))

    def test_one_to_three_rings(self):
        self.yes((ring(3),))
        self.yes((ring(3), ring(3)))
        self.yes((ring(3), ring(3), ring(3)))
        self.no(())
        self.no([])
        self.no((ring(3), ring(3), ring(3), ring(3)))

    def test_three_to_eight_manners(self):
        for many in range(12):
            self.assertIs(is_letter((ring(many),)), 3 <= many <= 8)
        self.no((ring(3), ring(2)))
        self.no((ring(2), ring(3)))
        self.no((ring(3), ()))

    def test_at_most_ten_corners(self):
        for sizes in ((5, 5), (7, 3), (3, 7), (4, 3, 3), (3, 4, 3), (3, 3, 4)):
            self.yes(tuple(ring(many) for many in sizes))
        for sizes in ((8, 3), (3, 8), (6, 5), (8, 8), (5, 3, 3), (4, 4, 3), (3, 3, 5), (8, 8, 8)):
            self.no(tuple(ring(many) for many in sizes))

    def test_lists_and_tuples_at_every_level(self):
        self.yes([["left", "left", "any"]])
        self.yes((["left", "left", "any"], ("any", "any", "any")))
        self.yes([("left", "left", "any")])

    def test_other_manners(self):
        for manner in ("Left", "LEFT", "", " left", "left ", "l", "up", "none", None, True, 0, 1, ("left",), ["left"],
                       "a" * 5000):
            for at in range(3):
                row = list(ring(3))
                row[at] = manner
                self.no((tuple(row),))

    def test_a_string_is_no_sequence(self):
        self.no("any")
        self.no(("any",))
        self.no(("any", "left"))
        self.no((ring(3), "any"))
        self.no(("left", "left", "left"))

    def test_odd_values(self):
        for value in ODD_VALUES:
            self.no(value)
        self.no([ring(3)] * 1600)
        deep = "any"
        for _ in range(20):
            deep = (deep, deep) if isinstance(deep, str) else (deep,)
        self.no(deep)

    def test_by_name(self):
        self.assertIs(is_letter(value=LETTER), True)


class DrawingTest(Case):
    def yes(self, letter, value):
        self.assertIs(is_drawing(letter, value), True)

    def no(self, letter, value):
        self.assertIs(is_drawing(letter, value), False)

    def test_ordinary(self):
        self.yes(LETTER, ONE)
        self.yes(LETTER, OTHER)
        letter = (ring(4), ring(3), ring(3))
        self.yes(letter, drawing_of(letter))

    def test_a_drawing_may_be_faulty(self):
        self.yes(LETTER, drawing_of(LETTER, (0, 0)))

    def test_places_from_minus_99_to_99(self):
        for worth in (-99, -1, 0, 1, 99):
            self.yes(LETTER, drawing_of(LETTER, (worth, 0)))
            self.yes(LETTER, drawing_of(LETTER, (0, worth)))
        for worth in (-100, 100, 10 ** 30, -10 ** 30):
            self.no(LETTER, drawing_of(LETTER, (worth, 0)))
            self.no(LETTER, drawing_of(LETTER, (0, worth)))

    def test_every_corner_is_looked_at(self):
        letter = (ring(3), ring(4), ring(3))
        for r in range(3):
            for k in range(len(letter[r])):
                for odd in ((0, 100), (-100, 0), (0,), (0, 0, 0), None, (0, True)):
                    value = as_lists(drawing_of(letter))
                    value[r][k] = odd
                    self.no(letter, value)

    def test_integers_only(self):
        for worth in (True, False, None, "1", "", (1, 1), [1, 2], ()):
            self.no(LETTER, drawing_of(LETTER, (worth, 0)))
            self.no(LETTER, drawing_of(LETTER, (0, worth)))

    def test_pairs_only(self):
        for place in ((), (1,), (1, 2, 3), 5, None, True, "12", "", ((1, 2),)):
            self.no(LETTER, drawing_of(LETTER, place))

    def test_as_many_places_as_the_letter_has(self):
        letter = (ring(3), ring(4))
        self.yes(letter, drawing_of(letter))
        for sizes in ((3,), (4,), (), (3, 3), (4, 4), (4, 3), (3, 5), (3, 4, 3), (3, 4, 0), (7,)):
            self.no(letter, drawing_of([ring(many) for many in sizes]))

    def test_strings_are_no_sequences(self):
        for value in ("", "abc", ("abc",), (("ab", "cd", "ef"),)):
            self.no(LETTER, value)

    def test_lists_and_tuples_at_every_level(self):
        self.yes(as_lists(LETTER), as_lists(ONE))
        self.yes(LETTER, [((0, 0), [1, 1], (2, 2))])
        self.yes([LETTER[0]], ([(0, 0), [1, 1], (2, 2)],))

    def test_odd_values(self):
        for value in ODD_VALUES:
            self.no(LETTER, value)
        self.no(LETTER, [ONE[0]] * 1000)

    def test_no_letter(self):
        for value in ODD_VALUES + ((ring(8), ring(3)), (ring(9),)):
            self.refused(0, is_drawing, value, ONE)
            self.refused(0, is_drawing, value, None)

    def test_by_name(self):
        self.assertIs(is_drawing(value=ONE, letter=LETTER), True)


class MixtureTest(Case):
    def test_one_master(self):
        self.assertEqual(mixture(LETTER, (ONE,), ((1, 1),)), ((((0, 1), (0, 1)), ((4, 1), (0, 1)), ((0, 1), (4, 1))),))

    def test_two_masters(self):
        told = mixture(LETTER, (ONE, OTHER), ((2, 3), (1, 3)))
        self.assertEqual(told, ((((1, 3), (0, 1)), ((-91, 3), (33, 1)), ((2, 3), (13, 3))),))
        self.plain(told)

    def test_in_lowest_terms(self):
        told = mixture(LETTER, (ONE, OTHER), ((1, 2), (1, 2)))
        self.assertEqual(told, ((((1, 2), (0, 1)), ((-95, 2), (99, 2)), ((1, 1), (9, 2))),))

    def test_four_masters_and_three_rings(self):
        letter = (ring(3), ring(4), ring(3))
        masters = tuple(drawing_of(letter, place) for place in ((0, 12), (12, 0), (-12, 24), (99, -99)))
        told = mixture(letter, masters, ((1, 2), (1, 3), (1, 6), (0, 1)))
        self.assertEqual(told, drawing_of(letter, ((2, 1), (10, 1))))
        told = mixture(letter, masters, ((0, 1), (0, 1), (0, 1), (1, 1)))
        self.assertEqual(told, drawing_of(letter, ((99, 1), (-99, 1))))

    def test_all_corners_as_their_own(self):
        chance = random.Random(5)
        for _ in range(200):
            letter = chance.choice(((ring(3),), (ring(8),), (ring(5), ring(3)), (ring(3), ring(3), ring(4))))
            many = chance.randint(1, 4)
            masters = [[[[chance.randint(-99, 99) for _ in range(2)] for _ in row] for row in letter]
                       for _ in range(many)]
            parts = [chance.choice((0, chance.randint(1, 10 ** 5))) for _ in range(many)]
            parts[chance.randrange(many)] += 1
            shares = [Fraction(part, sum(parts)) for part in parts]
            weights = [(share.numerator, share.denominator) for share in shares]
            told = mixture(letter, masters, weights)
            self.plain(told)
            self.assertEqual([len(row) for row in told], [len(row) for row in letter])
            for r, row in enumerate(letter):
                for k in range(len(row)):
                    for c in range(2):
                        mean = sum(share * master[r][k][c] for share, master in zip(shares, masters))
                        self.assertEqual(told[r][k][c], (mean.numerator, mean.denominator))

    def test_large_weights(self):
        low = 10 ** 6 - 1
        self.assertEqual(mixture(LETTER, (ONE, OTHER), ((1, 10 ** 6), (low, 10 ** 6)))[0][0], ((low, 10 ** 6), (0, 1)))
        # weights as the package returns them may be larger than those that are passed otherwise
        bottom = 10 ** 24 + 7
        self.assertEqual(mixture(LETTER, (ONE, OTHER), ((1, bottom), (bottom - 1, bottom)))[0][0],
                         ((bottom - 1, bottom), (0, 1)))

    def test_lists_and_tuples(self):
        masters = (ONE, OTHER)
        weights = ((2, 3), (1, 3))
        told = mixture(as_lists(LETTER), as_lists(masters), as_lists(weights))
        self.assertEqual(told, mixture(LETTER, masters, weights))
        self.plain(told)

    def test_arguments_are_left_alone(self):
        args = [as_lists(LETTER), as_lists((ONE, OTHER)), [[1, 4], [3, 4]]]
        kept = copy.deepcopy(args)
        told = mixture(*args)
        self.assertEqual(args, kept)
        args[1][0][0][0][0] = 50
        self.assertEqual(told, mixture(*kept))

    def test_by_name(self):
        self.assertEqual(mixture(weights=((1, 1),), masters=(ONE,), letter=LETTER), mixture(LETTER, (ONE,), ((1, 1),)))

    def test_no_letter(self):
        for value in ODD_VALUES:
            self.refused(0, mixture, value, (ONE,), ((1, 1),))
            self.refused(0, mixture, value, None, None)

    def test_no_masters(self):
        for value in ODD_VALUES + (ONE, (ONE,) * 5, (ONE, None), (ONE, drawing_of(LETTER, (0, 100))),
                                   (drawing_of(LETTER, (True, 0)), ONE), (drawing_of((ring(4),)),),
                                   (ONE, drawing_of((ring(3), ring(3)))), (ONE, OTHER, ONE, "abc")):
            self.refused(1, mixture, LETTER, value, ((1, 1),))
            self.refused(1, mixture, LETTER, value, None)

    def test_a_mixture_is_no_master(self):
        told = mixture(LETTER, (ONE,), ((1, 1),))
        self.refused(1, mixture, LETTER, (told,), ((1, 1),))
        self.assertIs(is_drawing(LETTER, told), False)

    def test_one_to_four_masters(self):
        for many in range(1, 5):
            self.plain(mixture(LETTER, (ONE,) * many, ((1, many),) * many))
        self.refused(1, mixture, LETTER, (), ())
        self.refused(1, mixture, LETTER, (ONE,) * 5, ((1, 5),) * 5)

    def test_no_weights(self):
        good = (1, 2)
        for value in ODD_VALUES:
            self.refused(2, mixture, LETTER, (ONE, OTHER), value)
            self.refused(2, mixture, LETTER, (ONE, OTHER), (good, value))
        for odd in (0, 1, True, None, "12", (1,), (1, 2, 1), (1, 2, 3), ("1", 2), (1, "2"), ((1, 2), 1)):
            self.refused(2, mixture, LETTER, (ONE, OTHER), (good, odd))
            self.refused(2, mixture, LETTER, (ONE, OTHER), (odd, good))

    def test_integers_are_no_fractions(self):
        self.refused(2, mixture, LETTER, (ONE,), (1,))
        self.refused(2, mixture, LETTER, (ONE, OTHER), (0, 1))

    def test_true_is_no_integer(self):
        for weights in (((True, 1),), ((1, True),), ((True, True),)):
            self.refused(2, mixture, LETTER, (ONE,), weights)
        self.refused(2, mixture, LETTER, (ONE, OTHER), ((1, 1), (False, 1)))

    def test_as_many_weights_as_masters(self):
        self.refused(2, mixture, LETTER, (ONE, OTHER), ((1, 1),))
        self.refused(2, mixture, LETTER, (ONE, OTHER), ((1, 3), (1, 3), (1, 3)))
        self.refused(2, mixture, LETTER, (ONE,), ((1, 1), (0, 1)))
        self.refused(2, mixture, LETTER, (ONE,), ())

    def test_lowest_terms_and_bottom_above_0(self):
        for odd in ((2, 4), (-1, -2), (0, 2), (3, 6)):
            self.refused(2, mixture, LETTER, (ONE, OTHER), ((1, 2), odd))
        self.refused(2, mixture, LETTER, (ONE,), ((-1, -1),))
        self.refused(2, mixture, LETTER, (ONE,), ((2, 2),))
        for odd in ((1, 0), (0, 0), (0, -1), (0, 2)):
            self.refused(2, mixture, LETTER, (ONE, OTHER), ((1, 1), odd))

    def test_none_below_0(self):
        self.refused(2, mixture, LETTER, (ONE, OTHER), ((3, 2), (-1, 2)))
        self.refused(2, mixture, LETTER, (ONE, OTHER), ((-1, 1), (2, 1)))

    def test_together_1(self):
        for weights in (((1, 2), (1, 3)), ((1, 1), (1, 1)), ((0, 1), (0, 1)), ((1, 2), (499999, 10 ** 6)),
                        ((1, 2), (500001, 10 ** 6)), ((1, 3), (1, 3))):
            self.refused(2, mixture, LETTER, (ONE, OTHER), weights)

    def test_fractions_of_the_result_have_no_common_divisor(self):
        for share in range(61):
            divisor = gcd(share, 60)
            rest = gcd(60 - share, 60)
            weights = ((share // divisor, 60 // divisor), ((60 - share) // rest, 60 // rest))
            for place in mixture(LETTER, (ONE, OTHER), weights)[0]:
                for top, bottom in place:
                    self.assertGreater(bottom, 0)
                    self.assertEqual(gcd(top, bottom), 1)


if __name__ == "__main__":
    unittest.main()
