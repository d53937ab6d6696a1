"""Promises 6, 11, 13, 17 and 32 to 34: spots between two drawings, and the form there."""

import copy
import random
import time
import unittest
from fractions import Fraction

from helpers import ODD_VALUES, Case, as_lists, exact_drawing, exact_number, near, nearby, random_drawing, slow_fault
from helpers import slow_mixture, spots_to_try, usual_manners
from keptform.forms import fault
from keptform.letters import mixture
from keptform.lines import fault_between, spans
from keptform.rooms import is_kept

LEFT = (("left", "left", "left"),)
ANY = (("any", "any", "any"),)
FOUR = (("left", "left", "any", "left"),)
FOUR_ANY = (("any",) * 4,)
SQUARE = (((0, 0), (8, 0), (8, 8), (0, 8)),)
WHOLE = (((0, 1), True, (1, 1), True),)


def slow_spans(letter, one, other):
    """The spans, with ends that are Fractions or Surds: every spot at which something may change is looked at."""
    found = []
    goes_on = False
    spots = sorted(spots_to_try(one, other), key=near)
    for at, spot in enumerate(spots):
        holds = slow_fault(letter, slow_mixture((one, other), (1 - spot, spot))) is None
        # Every second spot only stands for those between its neighbours.
        piece = [spot, True, spot, True] if at % 2 == 0 else [spots[at - 1], False, spots[at + 1], False]
        if holds and goes_on:
            found[-1][2:] = piece[2:]
        elif holds:
            found.append(piece)
        goes_on = holds
    return found


class LineCase(Case):
    def told(self, letter, one, other, answer):
        """The answer; backwards, too, where it is told by fractions; and for lists."""
        got = spans(letter, one, other)
        self.assertEqual(got, answer)
        self.well_formed(got)
        self.assertEqual(spans(as_lists(letter), as_lists(one), as_lists(other)), answer)
        self.assertIs(is_kept(letter, (one, other)), answer == WHOLE)
        if all(len(span[0]) == len(span[2]) == 2 for span in answer):
            back = tuple(((bottom - top, bottom), closed, (other_bottom - other_top, other_bottom), other_closed)
                         for (other_top, other_bottom), other_closed, (top, bottom), closed in answer[::-1])
            self.assertEqual(spans(letter, other, one), back)
        self.like_slow(letter, one, other)

    def well_formed(self, got):
        self.assertIs(type(got), tuple)
        for span in got:
            self.assertIs(type(span), tuple)
            low, with_low, high, with_high = span
            self.number(low)
            self.number(high)
            self.assertIs(type(with_low), bool)
            self.assertIs(type(with_high), bool)
            if low == high:
                self.assertTrue(with_low and with_high)

    def like_slow(self, letter, one, other):
        got, slow = spans(letter, one, other), slow_spans(letter, one, other)
        self.well_formed(got)
        self.assertEqual([span[1::2] for span in got], [tuple(span[1::2]) for span in slow])
        for span, expected in zip(got, slow):
            for told, worth in zip(span[::2], expected[::2]):
                self.assertLess(abs(near(exact_number(told)) - near(worth)), Fraction(1, 10 ** 30))
                if len(told) == 2:
                    self.assertTrue(worth == Fraction(*told))
        return got


class SpansTest(LineCase):
    def test_examples_of_the_document(self):
        far = (((0, 0), (8, 0), (-2, -2), (0, 8)),)
        self.told(FOUR, SQUARE, far, (((0, 1), True, (4, 5), False),))
        three = (((0, 0), (0, 1), (-1, 0)),)
        self.told(LEFT, three, (((0, 0), (-1, -4), (0, -1)),),
                  (((0, 1), True, (6, -6, 1, 0), False), ((6, -6, 1, 1), False, (1, 1), True)))
        self.told(FOUR, SQUARE, (((0, 0), (8, 0), (2, 2), (0, 8)),), WHOLE)

    def test_equal_drawings(self):
        self.told(FOUR, SQUARE, SQUARE, WHOLE)
        self.told((("right",) * 4,), SQUARE, SQUARE, ())
        self.told(ANY, (((1, 1), (1, 1), (1, 1)),), (((1, 1), (1, 1), (1, 1)),), ())

    def test_none(self):
        crossed = (((0, 0), (8, 8), (8, 0), (0, 8)),)
        self.told(FOUR_ANY, crossed, (((0, 0), (9, 9), (9, 0), (0, 9)),), ())
        self.told((("right",) * 3,), (((0, 0), (8, 0), (0, 8)),), (((0, 0), (9, 0), (0, 9)),), ())
        self.told(ANY, (((0, 0), (8, 0), (4, 0)),), (((0, 0), (9, 0), (5, 0)),), ())

    def test_a_fault_at_one_spot_only(self):
        one = (((0, 0), (8, 0), (0, 8)),)
        self.told(ANY, one, (((0, 0), (8, 0), (0, -8)),),
                  (((0, 1), True, (1, 2), False), ((1, 2), False, (1, 1), True)))
        self.told(ANY, one, (((0, 0), (8, 0), (0, -4)),),
                  (((0, 1), True, (2, 3), False), ((2, 3), False, (1, 1), True)))

    def test_a_fault_at_one_spot_that_is_no_fraction(self):
        one, other = (((0, 0), (0, 1), (1, -1)),), (((1, 1), (-1, -1), (-1, 1)),)
        low, high = (11, -8, 1, 0), (11, -8, 1, 1)
        self.told(ANY, one, other, (((0, 1), True, low, False), (low, False, high, False), (high, False, (1, 1), True)))

    def test_a_side_that_falls_at_one_spot_only(self):
        # The second corner comes to the first one, and goes back: from elsewhere it is a fault of no other kind.
        one, other = (((0, 0), (4, 0), (9, 9), (-9, 9)),), (((0, 0), (-4, 0), (9, 9), (-9, 9)),)
        told = spans(FOUR_ANY, one, other)
        self.assertEqual(told[0], ((0, 1), True, (1, 2), False))
        self.assertEqual(fault_between(FOUR_ANY, one, other, (1, 2)), ("fall", (0, 0)))
        self.like_slow(FOUR_ANY, one, other)

    def test_the_first_and_the_last_spot_without(self):
        flat, high = (((0, 0), (8, 0), (4, 0)),), (((0, 0), (8, 0), (4, 8)),)
        self.told(ANY, flat, high, (((0, 1), False, (1, 1), True),))
        self.told(ANY, high, flat, (((0, 1), True, (1, 1), False),))
        low = (((0, 0), (8, 0), (4, -8)),)
        self.told(LEFT, low, high, (((1, 2), False, (1, 1), True),))
        self.told((("right",) * 3,), low, high, (((0, 1), True, (1, 2), False),))
        # Open at both ends, which are no faults of the same place.
        one, other = (((0, 0), (8, 0), (0, 0), (4, 9)),), (((0, 0), (8, 0), (8, 0), (4, 9)),)
        self.told(FOUR_ANY, one, other, ())
        one, other = (((0, 0), (8, 0), (0, 2), (0, 9)),), (((0, 0), (8, 0), (8, 0), (0, 9)),)
        self.told(FOUR_ANY, one, other, (((0, 1), False, (1, 1), False),))

    def test_one_spot_alone(self):
        letter = (("any", "straight", "any", "any"),)
        base = ((8, 0), (4, 40))

        def drawing(y):
            return (((0, 0), (4, y)) + base,)
        self.told(letter, drawing(-3), drawing(3), (((1, 2), True, (1, 2), True),))
        self.told(letter, drawing(-1), drawing(3), (((1, 4), True, (1, 4), True),))
        self.told(letter, drawing(0), drawing(3), (((0, 1), True, (0, 1), True),))
        self.told(letter, drawing(-3), drawing(0), (((1, 1), True, (1, 1), True),))
        self.told(letter, drawing(2), drawing(3), ())
        self.told(letter, drawing(0), drawing(0), WHOLE)

    def test_spots_alone_that_are_no_fractions(self):
        # The straight corner has a turn that is 0 at two spots, the roots of 8 * t * t - 8 * t + 1.
        letter = (("any", "straight", "any", "any"),)
        found = None
        chance = random.Random(60)
        while found is None or len(found) != 2:
            one, other = [(((0, 0),) + tuple((chance.randint(-4, 4), chance.randint(0, 4)) for _ in range(2))
                           + ((40, 90),),) for _ in range(2)]
            found = [span for span in spans(letter, one, other) if len(span[0]) == 4]
        for low, with_low, high, with_high in found:
            self.assertEqual((low, with_low, with_high), (high, True, True))
        self.assertEqual(found[0][0][:3], found[1][0][:3])
        self.assertEqual([span[0][3] for span in found], [0, 1])
        self.like_slow(letter, one, other)

    def test_spans_with_ends_that_are_no_fractions(self):
        one, other = (((0, 0), (0, 1), (1, -1)),), (((1, 1), (-1, -1), (-1, 1)),)
        low, high = (11, -8, 1, 0), (11, -8, 1, 1)
        self.told((("any", "left", "any"),), one, other, ((low, False, high, False),))
        self.told((("any", "right", "any"),), one, other, (((0, 1), True, low, False), (high, False, (1, 1), True)))
        # A span from 0 to a root, the only one from 0 to 1.
        one, other = (((0, 0), (1, 0), (0, 1)),), (((0, 0), (1, 1), (1, 0)),)
        root = (1, 1, -1, 1)
        self.told((("any", "left", "any"),), one, other, (((0, 1), True, root, False),))
        self.told((("any", "right", "any"),), one, other, ((root, False, (1, 1), True),))
        self.told(ANY, one, other, (((0, 1), True, root, False), (root, False, (1, 1), True)))
        # The same, from the other drawing on: the lesser root of t * t - 3 * t + 1.
        root = (1, -3, 1, 0)
        self.told((("any", "left", "any"),), other, one, ((root, False, (1, 1), True),))

    def test_a_corner_in_line_with_a_side_at_all_spots(self):
        # The second ring slides along the line of the first side; it is on that side from 1/2 to 3/4.
        letter = (("any",) * 3, ("any",) * 3)
        base = ((0, 0), (8, 0), (4, -9))
        one, other = (base, ((-8, 0), (-9, 5), (-7, 5))), (base, ((24, 0), (23, 5), (25, 5)))
        self.told(letter, one, other, (((0, 1), True, (1, 4), False), ((1, 2), False, (1, 1), True)))
        # Here it only comes to the side's end, with the last spot, or goes away from it.
        self.told(letter, one, (base, ((0, 0), (-1, 5), (1, 5))), (((0, 1), True, (1, 1), False),))
        self.told(letter, (base, ((8, 0), (7, 5), (9, 5))), other, (((0, 1), False, (1, 1), True),))
        # The side's own ends move, too.
        wide = (((-8, 0), (16, 0), (4, -9)), one[1])
        self.told(letter, one, wide, (((0, 1), True, (1, 1), False),))

    def test_a_ring_that_goes_through_a_side(self):
        letter = (("any",) * 3, ("any",) * 3)
        base = ((0, 0), (9, 0), (0, 9))
        one, other = [(base, ((x, 1), (x + 2, 1), (x, 3))) for x in (1, 21)]
        self.told(letter, one, other, (((0, 1), True, (1, 4), False), ((7, 20), False, (1, 1), True)))

    def test_several_spans(self):
        chance = random.Random(61)
        most = 0
        for _ in range(150):
            letter = chance.choice((FOUR_ANY, (("any",) * 5,), (("any",) * 3, ("any",) * 3)))
            one, other = [random_drawing(chance, letter, 9) for _ in range(2)]
            if len(spans(letter, one, other)) > max(2, most):
                most = len(self.like_slow(letter, one, other))
        self.assertGreater(most, 3)

    def test_like_slow_ones(self):
        chance = random.Random(62)
        counts, quadruples = {}, 0
        for count in range(200):
            sizes = chance.choice(((3,), (4,), (5,), (3, 3)))
            width = chance.choice((1, 2, 3, 6, 99))
            letter = tuple(("any",) * many for many in sizes)
            one, other = [random_drawing(chance, letter, width) for _ in range(2)]
            if count % 2:
                while slow_fault(letter, one) is not None:
                    one = random_drawing(chance, letter, max(width, 4))
                other = nearby(chance, one, width // 2 + 1)
            if count % 3:
                letter = usual_manners(chance, letter, one)
            got = self.like_slow(letter, one, other)
            counts[len(got)] = counts.get(len(got), 0) + 1
            quadruples += sum(len(span[0]) + len(span[2]) > 4 for span in got)
            self.assertIs(is_kept(letter, (one, other)), got == WHOLE)
            self.assertEqual(is_kept(letter, (one,)), bool(got) and got[0][:2] == ((0, 1), True))
            self.assertEqual(is_kept(letter, (other,)), bool(got) and got[-1][2:] == ((1, 1), True))
        self.assertGreater(min(counts[0], counts[1], counts[2], quadruples), 8)

    def test_fault_between_tells_the_same(self):
        chance = random.Random(63)
        for _ in range(60):
            letter = chance.choice((ANY, LEFT, FOUR, FOUR_ANY))
            one, other = [random_drawing(chance, letter, 4) for _ in range(2)]
            told = spans(letter, one, other)
            ends = {end for span in told for end in span[::2] if len(end) == 2}
            spots = ends | {(Fraction(top, 24).numerator, Fraction(top, 24).denominator) for top in range(25)}
            for spot in sorted(spots):
                within = [span for span in told if self.is_in(Fraction(*spot), span)]
                self.assertLessEqual(len(within), 1)
                self.assertIs(fault_between(letter, one, other, spot) is None, bool(within))

    def is_in(self, spot, span):
        low, with_low, high, with_high = span
        low, high = exact_number(low), exact_number(high)
        return low < spot < high or with_low and low == spot or with_high and high == spot

    def test_far_places_in_reasonable_time(self):
        chance = random.Random(64)
        start = time.perf_counter()
        for sizes in ((5, 5), (8,), (4, 3, 3), (3, 7)):
            letter = tuple(tuple(chance.choice(("any", "left", "right")) for _ in range(many)) for many in sizes)
            one, other = [random_drawing(chance, letter, 99) for _ in range(2)]
            self.well_formed(spans(letter, one, other))
        letter = (("any",) * 5, ("any",) * 5)
        big = ((0, -99), (94, -31), (58, 80), (-58, 80), (-94, -31))
        small = ((0, -30), (28, -9), (17, 24), (-17, 24), (-28, -9))
        one = nearby(chance, (big, small), 5)
        for k in range(5):
            turned = (big[k:] + big[:k], small[k:] + small[:k])
            self.well_formed(spans(letter, one, nearby(chance, turned, 5)))
        self.assertLess(time.perf_counter() - start, 4)
        self.assertEqual(spans(letter, one, nearby(chance, one, 5)), WHOLE)

    def test_corners_of_the_widest_places(self):
        letter = (("left",) * 4,)
        one = (((-99, -99), (99, -99), (99, 99), (-99, 99)),)
        self.told(letter, one, (one[0][1:] + one[0][:1],), (((0, 1), True, (1, 1), True),))
        self.told(letter, one, (one[0][2:] + one[0][:2],), (((0, 1), True, (1, 2), False),
                                                            ((1, 2), False, (1, 1), True)))
        self.told(letter, one, (one[0][::-1],), (((0, 1), True, (1, 2), False),))


class FaultBetweenTest(LineCase):
    FAR = (((0, 0), (8, 0), (-2, -2), (0, 8)),)

    def test_first_and_last_spot(self):
        self.assertIsNone(fault_between(FOUR, SQUARE, self.FAR, (0, 1)))
        self.assertEqual(fault_between(FOUR, SQUARE, self.FAR, (1, 1)), fault(FOUR, self.FAR))
        self.assertIsNotNone(fault(FOUR, self.FAR))
        self.assertIsNone(fault_between(FOUR, self.FAR, SQUARE, (1, 1)))

    def test_each_kind(self):
        self.assertEqual(fault_between(FOUR, SQUARE, self.FAR, (4, 5)), ("touch", (0, 0), (0, 1)))
        self.assertIsNone(fault_between(FOUR, SQUARE, self.FAR, (799999, 1000000)))
        self.assertEqual(fault_between(FOUR, SQUARE, self.FAR, (800001, 1000000)), ("bend", (0, 1)))
        crossed = (((0, 0), (8, 8), (8, 0), (0, 8)),)
        self.assertEqual(fault_between(FOUR, SQUARE, crossed, (1, 2)), ("fall", (0, 1)))
        self.assertEqual(fault_between(FOUR, SQUARE, crossed, (2, 3)), ("cross", (0, 0), (0, 2)))
        one, other = (((0, 0), (8, 0), (0, 8)),), (((8, 0), (0, 0), (0, 8)),)
        self.assertEqual(fault_between(ANY, one, other, (1, 2)), ("fall", (0, 0)))
        self.assertIsNone(fault_between(ANY, one, other, (1, 3)))
        self.assertIsNone(fault_between(ANY, one, other, (2, 3)))

    def test_like_fault_of_the_mixture(self):
        chance = random.Random(65)
        for _ in range(200):
            letter = chance.choice((ANY, LEFT, FOUR, (("any",) * 3, ("any", "right", "straight"))))
            one, other = [random_drawing(chance, letter, chance.choice((1, 3, 99))) for _ in range(2)]
            spot = Fraction(chance.randint(0, 12), 12)
            got = fault_between(letter, one, other, (spot.numerator, spot.denominator))
            rest = 1 - spot
            mixed = mixture(letter, (one, other), ((rest.numerator, rest.denominator),
                                                   (spot.numerator, spot.denominator)))
            self.assertEqual(got, fault(letter, mixed))
            self.assertEqual(got, slow_fault(letter, exact_drawing(mixed)))
            self.plain(got)

    def test_spots_that_were_returned(self):
        low, high = ((10 ** 40 - 1, 10 ** 40), (1, 10 ** 40))
        self.assertIsNone(fault_between(FOUR, SQUARE, self.FAR, high))
        self.assertEqual(fault_between(FOUR, SQUARE, self.FAR, low), ("bend", (0, 1)))

    def test_lists(self):
        self.assertEqual(fault_between(as_lists(FOUR), as_lists(SQUARE), as_lists(self.FAR), [4, 5]),
                         ("touch", (0, 0), (0, 1)))


class WrongTest(LineCase):
    CALLS = ((spans, ()), (fault_between, ((1, 2),)))

    def test_no_letter(self):
        for call, more in self.CALLS:
            for value in ODD_VALUES + (FOUR[0], (("left", "left"),), (("left",) * 9,), (("up",) * 4,)):
                self.refused(0, call, value, SQUARE, SQUARE, *more)
                self.refused(0, call, value, None, None, *more)

    def test_no_drawings(self):
        far = (((0, 0), (8, 0), (8, 100), (0, 8)),)
        odd = (((0, 0), (8, 0), (8, True), (0, 8)),)
        mixed = mixture(FOUR, (SQUARE,), ((1, 1),))
        for call, more in self.CALLS:
            for value in ODD_VALUES + (SQUARE[0], (SQUARE,), SQUARE + SQUARE, far, odd, mixed, (SQUARE[0][:3],)):
                self.refused(1, call, FOUR, value, SQUARE, *more)
                self.refused(1, call, FOUR, value, None, *more)
                self.refused(2, call, FOUR, SQUARE, value, *more)

    def test_no_spot(self):
        for value in ODD_VALUES + ((-1, 2), (3, 2), (2, 4), (0, 2), (1, 0), (1, -1), (-1, -2), (1,), (1, 2, 3), (True, 1),
                                   (1, True), (0, True), (False, 1), ("1", "2"), (6, -6, 1, 0), ((1, 2),), "12",
                                   (10 ** 30, 10 ** 30 - 1)):
            self.refused(3, fault_between, FOUR, SQUARE, SQUARE, value)
            self.refused(2, fault_between, FOUR, SQUARE, (), value)
            self.refused(1, fault_between, FOUR, None, (), value)
            self.refused(0, fault_between, (), None, (), value)

    def test_arguments_are_left_alone(self):
        for call, more in self.CALLS:
            args = [as_lists(FOUR), as_lists(SQUARE), as_lists(SQUARE)] + as_lists(more)
            kept = copy.deepcopy(args)
            call(*args)
            self.assertEqual(args, kept)

    def test_by_name(self):
        self.assertEqual(spans(other=SQUARE, one=SQUARE, letter=FOUR), WHOLE)
        self.assertIsNone(fault_between(spot=(1, 2), other=SQUARE, one=SQUARE, letter=FOUR))


if __name__ == "__main__":
    unittest.main()
