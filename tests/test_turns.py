"""Promises 4, 11, 17 and 22 to 24: least and greatest turns, areas."""

import copy
import random
import unittest
from fractions import Fraction

from helpers import ODD_VALUES, Case, as_lists, corners_of, exact_drawing, grid, places_of, random_drawing, slow_mixture
from helpers import slow_turn
from keptform.forms import fault
from keptform.letters import mixture
from keptform.turns import area, greatest_turn, least_turn

LEFT = (("left", "left", "left"),)
FIRST = (((0, 0), (4, 0), (0, 5)),)
# The turn of each corner is 20 * (1 - 2 * t) * (1 - 5 * t) at the weights 1 - t and t.
FAR = (((0, 0), (-4, 0), (0, -20)),)
# The turn is 4 * (x * x + y * y - 1), (x, y) being the mean of (6, 0), (-2, 4) and (-2, -4).
AROUND = ((((0, 0), (14, 0), (0, 10)),), (((0, 0), (-2, 8), (-8, -6)),), (((0, 0), (-2, -8), (8, -6)),))


class TurnCase(Case):
    def holds(self, letter, masters, corner, told):
        """The turn is told exactly, and the weights are weights for which the corner has it."""
        self.plain(told)
        turn, weights = told
        self.number(turn)
        self.assertEqual(len(turn), 2)
        self.assertEqual(len(weights), len(masters))
        for weight in weights:
            self.number(weight)
            self.assertEqual(len(weight), 2)
        mixed = exact_drawing(mixture(letter, masters, weights))
        self.assertEqual(slow_turn(letter, places_of(mixed), corner), Fraction(*turn))

    def both(self, letter, masters, corner, least, greatest):
        for call, answer in ((least_turn, least), (greatest_turn, greatest)):
            told = call(letter, masters, corner)
            self.assertEqual(told[0], answer)
            self.holds(letter, masters, corner, told)


class TurnTest(TurnCase):
    def test_example_of_the_document(self):
        letter = (("left", "left", "any", "left"),)
        one, other = (((0, 0), (8, 0), (8, 8), (0, 8)),), (((0, 0), (8, 0), (2, 2), (0, 8)),)
        self.assertEqual(least_turn(letter, (one, other), (0, 1)), ((16, 1), ((0, 1), (1, 1))))

    def test_one_master(self):
        for corner in corners_of(LEFT):
            for call in (least_turn, greatest_turn):
                self.assertEqual(call(LEFT, (FIRST,), corner), ((20, 1), ((1, 1),)))
        square = (((0, 0), (8, 0), (2, 2), (0, 8)),)
        self.assertEqual([least_turn((("any",) * 4,), (square,), (0, k))[0][0] for k in range(4)], [64, 16, -32, 16])

    def test_equal_masters(self):
        for many in range(2, 5):
            self.both(LEFT, (FIRST,) * many, (0, 1), (20, 1), (20, 1))
        self.both(LEFT, (FIRST, FAR, FIRST, FAR), (0, 2), (-9, 2), (80, 1))

    def test_at_a_master(self):
        self.assertEqual(greatest_turn(LEFT, (FIRST, FAR), (0, 0)), ((80, 1), ((0, 1), (1, 1))))
        self.assertEqual(greatest_turn(LEFT, (FAR, FIRST), (0, 0)), ((80, 1), ((1, 1), (0, 1))))
        self.assertEqual(greatest_turn(LEFT, AROUND, (0, 1)), ((140, 1), ((1, 1), (0, 1), (0, 1))))
        mirrored = tuple(tuple(ring[::-1] for ring in drawing) for drawing in AROUND)
        self.assertEqual(least_turn(LEFT, mirrored, (0, 1)), ((-140, 1), ((1, 1), (0, 1), (0, 1))))

    def test_on_an_edge(self):
        for corner in corners_of(LEFT):
            told = least_turn(LEFT, (FIRST, FAR), corner)
            self.assertEqual(told, ((-9, 2), ((13, 20), (7, 20))))
        self.assertEqual(least_turn(LEFT, (AROUND[1], AROUND[2]), (0, 0)), ((12, 1), ((1, 2), (1, 2))))
        mirrored = tuple(tuple(ring[::-1] for ring in drawing) for drawing in (FIRST, FAR))
        self.assertEqual(greatest_turn(LEFT, mirrored, (0, 2)), ((9, 2), ((13, 20), (7, 20))))

    def test_inside_of_the_room(self):
        for corner in corners_of(LEFT):
            self.assertEqual(least_turn(LEFT, AROUND, corner), ((-4, 1), ((1, 4), (3, 8), (3, 8))))
        mirrored = tuple(tuple(ring[::-1] for ring in drawing) for drawing in AROUND)
        self.assertEqual(greatest_turn(LEFT, mirrored, (0, 0)), ((4, 1), ((1, 4), (3, 8), (3, 8))))

    def test_on_a_face_of_four_masters(self):
        high = (((0, 0), (50, 0), (0, 50)),)
        for at in range(4):
            masters = AROUND[:at] + (high,) + AROUND[at:]
            told = least_turn(LEFT, masters, (0, 1))
            self.assertEqual(told[0], (-4, 1))
            self.holds(LEFT, masters, (0, 1), told)

    def test_the_turn_is_the_same_everywhere(self):
        masters = tuple((tuple((x + k, y - 3 * k) for x, y in FIRST[0]),) for k in range(4))
        self.both(LEFT, masters, (0, 1), (20, 1), (20, 1))
        flat = tuple((((0, 0), (k, k), (2 * k, 2 * k)),) for k in range(4))
        self.both(LEFT, flat, (0, 1), (0, 1), (0, 1))

    def test_every_corner_of_every_ring(self):
        chance = random.Random(3)
        for _ in range(20):
            letter = (("any",) * 3, ("left",) * 4, ("straight",) * 3)
            masters = [random_drawing(chance, letter, 9)]
            for corner in corners_of(letter):
                worth = slow_turn(letter, places_of(masters[0]), corner)
                self.both(letter, masters, corner, (worth, 1), (worth, 1))

    def test_two_masters_like_a_slow_one(self):
        chance = random.Random(21)
        inner = 0
        for _ in range(300):
            width = chance.choice((1, 3, 9, 99))
            masters = [random_drawing(chance, LEFT, width) for _ in range(2)]
            corner = (0, chance.randrange(3))
            at = [slow_turn(LEFT, places_of(slow_mixture(masters, (1 - t, t))), corner) for t in (0, 1, Fraction(1, 2))]
            a, b = 2 * (at[0] + at[1] - 2 * at[2]), 4 * at[2] - 3 * at[0] - at[1]
            worths = at[:2]
            if a and 0 < -b / (2 * a) < 1:
                worths.append(at[0] - b * b / (4 * a))
                inner += 1
            least, greatest = [(worth.numerator, worth.denominator) for worth in (min(worths), max(worths))]
            self.both(LEFT, masters, corner, least, greatest)
        self.assertGreater(inner, 50)

    def test_no_mixture_has_less_or_more(self):
        chance = random.Random(22)
        seen = set()
        for _ in range(150):
            width = chance.choice((2, 9, 99))
            letter = chance.choice(((("any",) * 4,), (("any",) * 3, ("any",) * 3)))
            masters = [random_drawing(chance, letter, width) for _ in range(chance.choice((3, 4)))]
            corner = chance.choice(corners_of(letter))
            least, greatest = least_turn(letter, masters, corner), greatest_turn(letter, masters, corner)
            for told in (least, greatest):
                self.holds(letter, masters, corner, told)
                seen.add(sum(top > 0 for top, _ in told[1]))
            for weights in grid(len(masters), 6):
                worth = slow_turn(letter, places_of(slow_mixture(masters, weights)), corner)
                self.assertTrue(Fraction(*least[0]) <= worth <= Fraction(*greatest[0]))
        self.assertEqual(seen, {1, 2, 3})

    def test_a_bend_that_no_master_has(self):
        for drawing in AROUND + (FIRST, FAR):
            self.assertIsNone(fault(LEFT, drawing))
        self.assertLess(least_turn(LEFT, (FIRST, FAR), (0, 0))[0][0], 0)

    def test_far_places(self):
        corner = (0, 1)
        masters = ((((-99, -99), (99, -99), (99, 99)),), (((99, 99), (-99, 99), (-99, -99)),))
        self.both(LEFT, masters, corner, (0, 1), (198 * 198, 1))


class AreaTest(Case):
    def test_one_master(self):
        self.assertEqual(area(LEFT, (FIRST,), 0), ((0, 0, 20),))
        square = (((1, 1), (9, 1), (9, 9), (1, 9)),)
        self.assertEqual(area((("any",) * 4,), (square,), 0), ((0, 0, 128),))
        self.assertEqual(area((("any",) * 4,), ((square[0][::-1],),), 0), ((0, 0, -128),))

    def test_two_masters(self):
        self.assertEqual(area(LEFT, (FIRST, FAR), 0), ((0, 0, 20), (0, 1, -100), (1, 1, 80)))

    def test_all_pairs_of_four(self):
        told = area(LEFT, AROUND + (AROUND[0],), 0)
        self.assertEqual(told, ((0, 0, 140), (0, 1, -104), (0, 2, -104), (0, 3, 280), (1, 1, 76), (1, 2, -104),
                                (1, 3, -104), (2, 2, 76), (2, 3, -104), (3, 3, 140)))
        self.plain(told)

    def test_worths_of_0_are_told(self):
        flat = (((1, 1), (1, 1), (1, 1)),)
        self.assertEqual(area(LEFT, (flat, flat), 0), ((0, 0, 0), (0, 1, 0), (1, 1, 0)))

    def test_each_ring(self):
        letter = (("any",) * 3, ("any",) * 4, ("any",) * 3)
        drawing = (((0, 0), (4, 0), (0, 5)), ((0, 0), (0, 2), (2, 2), (2, 0)), ((9, 9), (10, 9), (9, 10)))
        self.assertEqual([area(letter, (drawing,), ring) for ring in range(3)],
                         [((0, 0, 20),), ((0, 0, -8),), ((0, 0, 1),)])

    def test_like_the_area_of_mixtures(self):
        chance = random.Random(23)
        for _ in range(100):
            letter = chance.choice(((("any",) * 5,), (("any",) * 3, ("any",) * 4)))
            many = chance.randint(1, 4)
            masters = [random_drawing(chance, letter, 99) for _ in range(many)]
            ring = chance.randrange(len(letter))
            told = area(letter, masters, ring)
            self.assertEqual([(i, j) for i, j, _ in told], [(i, j) for i in range(many) for j in range(i, many)])
            for weights in grid(many, 3):
                row = slow_mixture(masters, weights)[ring]
                worth = sum(x0 * y1 - x1 * y0 for (x0, y0), (x1, y1) in zip(row, row[1:] + row[:1]))
                self.assertEqual(sum(worth * weights[i] * weights[j] for i, j, worth in told), worth)


class WrongTest(Case):
    CALLS = ((least_turn, (0, 0)), (greatest_turn, (0, 0)), (area, 0))

    def test_no_letter(self):
        for call, last in self.CALLS:
            for value in ODD_VALUES + (LEFT[0], (("left", "left"),), (("left",) * 9,), (("up",) * 3,)):
                self.refused(0, call, value, (FIRST,), last)
                self.refused(0, call, value, None, None)

    def test_no_masters(self):
        for call, last in self.CALLS:
            for value in ODD_VALUES + (FIRST, (FIRST,) * 5, (FIRST, None), ((((0, 0), (100, 0), (0, 5)),),),
                                       ((((0, 0), (True, 0), (0, 5)),),), (mixture(LEFT, (FIRST,), ((1, 1),)),)):
                self.refused(1, call, LEFT, value, last)
                self.refused(1, call, LEFT, value, None)

    def test_no_corner(self):
        letter = (("any",) * 3, ("any",) * 4)
        drawing = (((0, 0), (4, 0), (0, 5)), ((0, 0), (0, 2), (2, 2), (2, 0)))
        for call in (least_turn, greatest_turn):
            for value in ODD_VALUES + ((0, 3), (1, 4), (2, 0), (-1, 0), (0, -1), (0,), (0, 0, 0), (True, 0), (0, True),
                                       (0, None), ("0", 0), (10 ** 30, 0), (0, -10 ** 30), ((0, 0),), ((0, 0), 0)):
                self.refused(2, call, letter, (drawing,), value)
            for corner in corners_of(letter):
                self.plain(call(letter, (drawing,), corner))

    def test_no_ring(self):
        letter = (("any",) * 3, ("any",) * 4)
        drawing = (((0, 0), (4, 0), (0, 5)), ((0, 0), (0, 2), (2, 2), (2, 0)))
        for value in (-1, 2, 10 ** 30, True, False, None, "", "0", (), (0,), [1], (0, 0)):
            self.refused(2, area, letter, (drawing,), value)

    def test_lists_and_tuples(self):
        for call, last in self.CALLS:
            args = [as_lists(LEFT), as_lists(AROUND), as_lists(last)]
            kept = copy.deepcopy(args)
            told = call(*args)
            self.plain(told)
            self.assertEqual(told, call(LEFT, AROUND, last))
            self.assertEqual(args, kept)

    def test_by_name(self):
        for call in (least_turn, greatest_turn):
            self.assertEqual(call(corner=(0, 1), masters=AROUND, letter=LEFT), call(LEFT, AROUND, (0, 1)))
        self.assertEqual(area(ring=0, masters=AROUND, letter=LEFT), area(LEFT, AROUND, 0))


if __name__ == "__main__":
    unittest.main()
