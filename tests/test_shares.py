"""Promises 3, 11, 13, 17 and 25 to 27: the shares of sides that corners meet."""

import copy
import random
import unittest
from fractions import Fraction
from itertools import combinations

from helpers import ODD_VALUES, Case, as_lists, corners_of, ends_of, exact_number, near, pairs_of, places_of
from helpers import random_drawing, share_of, slow_mixture, spots_to_try, weights_for_share
from keptform.letters import mixture
from keptform.roots import compare
from keptform.shares import shares

THREE = (("any", "any", "any"),)
FOUR = (("any", "any", "any", "any"),)
SIX = (("any", "any", "any"), ("any", "any", "any"))
START, END = (0, 1), (1, 1)
WHOLE = ((START, END),)
TINY = Fraction(1, 10 ** 25)


def alone(*numbers):
    """Spans of one share alone."""
    return tuple((number, number) for number in numbers)


class ShareCase(Case):
    def met(self, letter, masters, corner, side, share):
        """There is a mixture in which the corner has the place of the share, an exact number."""
        weights = weights_for_share(letter, masters, corner, side, share)
        self.assertIsNotNone(weights)
        self.assertTrue(sum(weights) == 1 and all(weight >= 0 for weight in weights))
        at = places_of(slow_mixture(masters, weights))
        first, last = [at[end] for end in ends_of(letter, side)]
        for c in range(2):
            self.assertTrue(at[corner][c] == (1 - share) * first[c] + share * last[c])

    def missed(self, letter, masters, corner, side, share):
        self.assertIsNone(weights_for_share(letter, masters, corner, side, share))

    def well_told(self, letter, masters, corner, side, told):
        """Ascending spans with a gap between each two, whose ends are met, and from which a little step out is not."""
        self.plain(told)
        bounds = []
        for low, high in told:
            self.number(low)
            self.number(high)
            ends = [near(exact_number(number)) for number in (low, high)]
            self.assertEqual(low == high, ends[0] == ends[1])
            bounds.extend(ends)
            for number in (low, high):
                self.met(letter, masters, corner, side, exact_number(number))
            for share in (ends[0] - TINY, ends[1] + TINY):
                if 0 <= share <= 1:
                    self.missed(letter, masters, corner, side, share)
            if low != high:
                for share in (ends[0] + TINY, (ends[0] + ends[1]) / 2, ends[1] - TINY):
                    self.met(letter, masters, corner, side, share)
        self.assertEqual(bounds, sorted(bounds))
        self.assertTrue(all(0 <= bound <= 1 for bound in bounds))
        for high, low in zip(bounds[1::2], bounds[2::2]):
            self.assertLess(high, low)
            self.missed(letter, masters, corner, side, (high + low) / 2)

    def told(self, letter, masters, corner, side, answer):
        for many in (masters, masters[::-1], masters[:1] + masters if len(masters) < 4 else masters):
            got = shares(letter, many, corner, side)
            self.assertEqual(got, answer)
            self.well_told(letter, many, corner, side, got)


class SharesTest(ShareCase):
    def test_example_of_the_document(self):
        one, far = (((0, 0), (8, 0), (8, 8), (0, 8)),), (((0, 0), (8, 0), (-2, -2), (0, 8)),)
        for corner, side, answer in (((0, 0), (0, 1), alone(END)), ((0, 0), (0, 2), alone(START)),
                                     ((0, 2), (0, 0), alone(START)), ((0, 2), (0, 3), alone(END))):
            self.told(FOUR, (one, far), corner, side, answer)
        for corner, side in (((0, 1), (0, 2)), ((0, 1), (0, 3)), ((0, 3), (0, 0)), ((0, 3), (0, 1))):
            self.told(FOUR, (one, far), corner, side, ())

    def test_one_master(self):
        drawing = (((0, 0), (9, 0), (3, 0)),)
        self.told(THREE, (drawing,), (0, 2), (0, 0), alone((1, 3)))
        self.told(THREE, (drawing,), (0, 0), (0, 1), ())
        self.told(THREE, (drawing,), (0, 1), (0, 2), ())
        self.told(THREE, ((((0, 0), (9, 0), (3, 1)),),), (0, 2), (0, 0), ())

    def test_the_ends_of_a_side(self):
        drawing = (((0, 0), (9, 0), (5, 5), (9, 0)),)
        self.told(FOUR, (drawing,), (0, 3), (0, 0), alone(END))
        self.told(FOUR, (drawing,), (0, 3), (0, 1), alone(START))
        self.told(FOUR, (drawing,), (0, 1), (0, 2), alone(END))
        self.told(FOUR, (drawing,), (0, 1), (0, 3), alone(START))

    def test_just_beyond_the_ends(self):
        for place, answer in (((-1, 0), ()), ((0, 0), alone(START)), ((99, 0), alone(END)), ((98, 0), alone((98, 99)))):
            self.told(THREE, ((((0, 0), (99, 0), place),),), (0, 2), (0, 0), answer)
        self.told(THREE, ((((0, 0), (98, 0), (99, 0)),),), (0, 2), (0, 0), ())

    def test_a_fallen_side(self):
        self.told(THREE, ((((3, 3), (3, 3), (3, 3)),),), (0, 2), (0, 0), WHOLE)
        self.told(THREE, ((((3, 3), (3, 3), (3, 4)),),), (0, 2), (0, 0), ())
        # It falls in the middle only, and the corner is there then, or is not.
        masters = ((((0, 0), (4, 0), (2, 0)),), (((4, 0), (0, 0), (2, 0)),))
        self.told(THREE, masters, (0, 2), (0, 0), WHOLE)
        masters = ((((0, 0), (4, 0), (0, 5)),), (((4, 0), (0, 0), (4, -5)),))
        self.told(THREE, masters, (0, 2), (0, 0), WHOLE)
        masters = ((((0, 0), (4, 0), (2, 1)),), (((4, 0), (0, 0), (2, 1)),))
        self.told(THREE, masters, (0, 2), (0, 0), ())

    def test_a_corner_that_goes_along_a_side(self):
        for first, last, answer in ((2, 6, (((1, 4), (3, 4)),)), (-9, 20, WHOLE), (-9, 0, alone(START)),
                                    (8, 20, alone(END)), (4, 4, alone((1, 2))), (-9, 3, ((START, (3, 8)),)),
                                    (5, 9, (((5, 8), END),)), (-9, -1, ()), (9, 20, ())):
            masters = tuple((((0, 0), (8, 0), (x, 0)),) for x in (first, last))
            self.told(THREE, masters, (0, 2), (0, 0), answer)

    def test_a_corner_that_goes_through_a_side(self):
        masters = ((((0, 0), (8, 0), (1, 5)),), (((0, 0), (8, 0), (4, -10)),))
        self.told(THREE, masters, (0, 2), (0, 0), alone((1, 4)))

    def test_three_masters_around_a_side(self):
        masters = tuple((((0, 0), (8, 0), place),) for place in ((4, 5), (2, -5), (6, -5)))
        self.told(THREE, masters, (0, 2), (0, 0), (((3, 8), (5, 8)),))

    def test_ends_that_are_no_fractions(self):
        masters = ((((0, 0), (0, 1), (1, -1)),), (((1, 1), (-1, -1), (-1, 1)),))
        self.told(THREE, masters, (0, 2), (0, 0), alone((1, 1, -1, 1)))
        masters = ((((-1, 1), (1, 2), (2, 0)),), (((0, 2), (1, -2), (1, 1)),), (((-1, -2), (0, -1), (2, -2)),))
        self.assertEqual(len(shares(THREE, masters, (0, 1), (0, 2))), 1)
        masters = ((((0, 0), (-1, 1), (1, 0)),), (((1, 1), (1, 0), (1, 0)),), (((1, 1), (-1, 1), (-1, -1)),),
                   (((0, 0), (0, 1), (0, -1)),))
        self.told(THREE, masters, (0, 0), (0, 1), ((START, (2, 0, -1, 1)),))

    def test_both_roots_of_one_polynomial(self):
        masters = ((((-1, -1), (1, 0), (1, 2), (0, -2)),), (((0, 1), (2, -2), (2, -1), (-2, 2)),))
        self.told(FOUR, masters, (0, 0), (0, 2), alone((19, -28, 10, 0), (19, -28, 10, 1)))

    def test_two_spans_of_several_kinds(self):
        masters = ((((2, -5), (-5, 0), (0, 0)),), (((3, 2), (4, 1), (-4, 1)),))
        self.told(THREE, masters, (0, 1), (0, 2), alone(START, (35, 37)))
        masters = ((((-1, 1), (0, -1), (-1, -1)),), (((-1, 0), (1, 0), (0, 1)),), (((1, 1), (0, 1), (1, 0)),))
        self.told(THREE, masters, (0, 1), (0, 2), ((START, START), ((1, 3), END)))
        masters = ((((-1, 4), (3, 1), (1, 5)),), (((5, 5), (-5, 5), (2, 6)),), (((-6, 4), (-3, 6), (-1, -5)),))
        self.told(THREE, masters, (0, 2), (0, 0), ((START, (20, 81, -22, 1)), ((17, 20, -23, 1), END)))
        masters = ((((-1, 4), (-2, -5), (3, 5)),), (((-4, -5), (-3, 0), (-3, 1)),), (((1, 0), (6, -4), (-3, -3)),),
                   (((-2, 1), (2, 3), (0, -3)),))
        self.told(THREE, masters, (0, 1), (0, 2),
                  ((START, (9, -31, 5, 0)), ((23, -24, 5, 0), (23, -24, 5, 1))))

    def test_three_spans(self):
        masters = ((((2, -3), (6, 0), (-3, -6)),), (((3, 4), (1, -5), (3, 5)),), (((-3, -4), (-3, 4), (4, -4)),))
        self.told(THREE, masters, (0, 0), (0, 1),
                  ((START, (86, -95, 16, 0)), ((78, -103, 30, 0), (114, -125, 32, 1)), ((86, -95, 16, 1), END)))
        masters = ((((10, -6), (-2, 4), (16, -11)),), (((-15, 5), (-5, 15), (-11, -15)),),
                   (((18, -17), (-19, -8), (5, -4)),), (((19, -9), (16, -3), (2, -5)),))
        self.told(THREE, masters, (0, 0), (0, 1),
                  (((174, -341, 115, 0), (11, 21)), ((2, 3), (2, 3)), ((131, 144), END)))

    def test_a_side_of_another_ring(self):
        masters = tuple((((0, 0), (8, 0), (0, 8)), ((x, 0), (x, -9), (x - 1, -9))) for x in (2, 4))
        self.told(SIX, masters, (1, 0), (0, 0), (((1, 4), (1, 2)),))
        self.told(SIX, tuple(drawing[::-1] for drawing in masters), (0, 0), (1, 0), (((1, 4), (1, 2)),))
        self.told(SIX, masters, (0, 0), (1, 0), ())

    def test_the_last_side_ends_at_the_first_corner(self):
        masters = ((((0, 0), (4, 2), (0, 8)),), (((0, 0), (-4, 2), (0, 8)),))
        self.told(THREE, masters, (0, 1), (0, 2), alone((3, 4)))

    def test_equal_masters(self):
        drawing = (((0, 0), (9, 0), (3, 0)),)
        for many in range(1, 5):
            self.assertEqual(shares(THREE, (drawing,) * many, (0, 2), (0, 0)), alone((1, 3)))

    def test_like_slow_ones(self):
        chance = random.Random(31)
        kinds = {}
        for _ in range(250):
            letter = chance.choice((THREE, FOUR, SIX))
            width = chance.choice((1, 2, 3, 6, 20, 99))
            masters = [random_drawing(chance, letter, width) for _ in range(chance.randint(1, 4))]
            corner, side = chance.choice(pairs_of(letter))
            told = shares(letter, masters, corner, side)
            self.well_told(letter, masters, corner, side, told)
            for step in range(25):
                share = Fraction(step, 24)
                pair = (share.numerator, share.denominator)
                within = any(compare(low, pair) <= 0 <= compare(high, pair) for low, high in told)
                self.assertEqual(within, weights_for_share(letter, masters, corner, side, share) is not None)
            self.pairs_of_masters(letter, masters, corner, side, told)
            kinds[len(masters), len(told)] = kinds.get((len(masters), len(told)), 0) + 1
        self.assertLessEqual({(1, 0), (1, 1), (2, 1), (2, 2), (3, 1), (3, 2), (4, 1), (4, 2)}, set(kinds))

    def pairs_of_masters(self, letter, masters, corner, side, told):
        """What is met between two masters, found by the spots at which the form changes, is in the spans."""
        spans = [[near(exact_number(number)) for number in span] for span in told]
        for one, other in combinations(masters, 2):
            for spot in spots_to_try(one, other):
                at = places_of(slow_mixture((one, other), (1 - spot, spot)))
                first, last = [at[end] for end in ends_of(letter, side)]
                share = None if first == last else share_of(at[corner], first, last)
                if share is not None:
                    self.assertTrue(any(low - TINY <= near(share) <= high + TINY for low, high in spans))

    def test_meetings_that_are_made(self):
        chance = random.Random(32)
        for _ in range(300):
            many = chance.randint(2, 4)
            last = chance.randint(1, 3)
            share = Fraction(chance.randint(0, 4), 4)
            tops = [chance.randint(0, 2) for _ in range(many - 1)]
            rows = [[[unit * chance.randint(-1, 1) for _ in range(2)] for unit in (4 * last, 4 * last, last)]
                    for _ in range(many)]
            for c in range(2):
                # The last master's corner goes to where the mean by the weights tops and last is at the share.
                mean = sum(top * ((1 - share) * row[0][c] + share * row[1][c]) for top, row in zip(tops + [last], rows))
                rows[-1][2][c] = int((mean - sum(top * row[2][c] for top, row in zip(tops, rows))) / last)
            weights = [Fraction(top, sum(tops) + last) for top in tops + [last]]
            masters = [(row,) for row in rows]
            at = places_of(slow_mixture(masters, weights))
            self.assertEqual(at[0, 2], tuple((1 - share) * at[0, 0][c] + share * at[0, 1][c] for c in range(2)))
            pair = (share.numerator, share.denominator)
            told = shares(THREE, masters, (0, 2), (0, 0))
            self.assertTrue(any(compare(low, pair) <= 0 <= compare(high, pair) for low, high in told))


class WrongTest(Case):
    LETTER = (("any",) * 3, ("any",) * 4)
    DRAWING = (((0, 0), (8, 0), (0, 8)), ((0, 0), (0, 2), (2, 2), (2, 0)))
    NO_CORNERS = ODD_VALUES + ((0, 3), (1, 4), (2, 0), (-1, 0), (0, -1), (0,), (0, 0, 0), (True, 0), (0, True),
                               (0, None), ("0", 0), (10 ** 30, 0), (0, -10 ** 30), ((0, 0),), ((0, 0), 0))

    def test_no_letter(self):
        for value in ODD_VALUES + (self.LETTER[0], (("left", "left"),), (("up",) * 3,), (("any",) * 8, ("any",) * 3)):
            self.refused(0, shares, value, (self.DRAWING,), (0, 0), (0, 1))
            self.refused(0, shares, value, None, None, None)

    def test_no_masters(self):
        for value in ODD_VALUES + (self.DRAWING, (self.DRAWING,) * 5, (self.DRAWING, None), (self.DRAWING[:1],),
                                   (mixture(self.LETTER, (self.DRAWING,), ((1, 1),)),)):
            self.refused(1, shares, self.LETTER, value, (0, 0), (0, 1))
            self.refused(1, shares, self.LETTER, value, None, None)

    def test_no_corner(self):
        for value in self.NO_CORNERS:
            self.refused(2, shares, self.LETTER, (self.DRAWING,), value, (0, 1))
            self.refused(2, shares, self.LETTER, (self.DRAWING,), value, value)

    def test_no_side(self):
        for value in self.NO_CORNERS:
            self.refused(3, shares, self.LETTER, (self.DRAWING,), (0, 0), value)

    def test_an_end_of_the_side(self):
        for corner in corners_of(self.LETTER):
            for side in corners_of(self.LETTER):
                args = (self.LETTER, (self.DRAWING,), corner, side)
                if corner in ends_of(self.LETTER, side):
                    self.refused(3, shares, *args)
                    self.refused(3, shares, *as_lists(args))
                    self.refused(3, shares, *args[:3], list(side))
                else:
                    self.plain(shares(*args))

    def test_lists_and_tuples(self):
        masters = (self.DRAWING, (self.DRAWING[0], self.DRAWING[1][::-1]))
        for corner, side in pairs_of(self.LETTER):
            args = [as_lists(self.LETTER), as_lists(masters), list(corner), list(side)]
            kept = copy.deepcopy(args)
            told = shares(*args)
            self.plain(told)
            self.assertEqual(told, shares(self.LETTER, masters, corner, side))
            self.assertEqual(args, kept)

    def test_by_name(self):
        self.assertEqual(shares(side=(0, 0), corner=(1, 0), masters=(self.DRAWING,), letter=self.LETTER), alone(START))


if __name__ == "__main__":
    unittest.main()
