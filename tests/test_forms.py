"""Promises 11, 13 and 17 to 21: faults of drawings and mixtures, rings within rings."""

import copy
import random
import unittest
from fractions import Fraction

from helpers import ODD_VALUES, Case, as_lists, common_inner_place, exact_drawing, slow_fault
from keptform.forms import fault, inside
from keptform.letters import mixture

SQUARE = ((0, 0), (8, 0), (8, 8), (0, 8))
LEFT = ("left", "left", "left", "left")
ANY = ("any", "any", "any", "any")
THREE = ("any", "any", "any")


def as_fractions(drawing):
    return tuple(tuple(tuple((worth, 1) for worth in place) for place in row) for row in drawing)


def shrunk(drawing, bottom):
    """The drawing in fractions, smaller by the factor 1 / bottom."""
    rows = [[[Fraction(worth, bottom) for worth in place] for place in row] for row in drawing]
    return tuple(tuple(tuple((w.numerator, w.denominator) for w in place) for place in row) for row in rows)


def slow_inside(letter, drawing, ring, other):
    """A ray that misses all corners meets the other ring's sides an odd number of times."""
    x, y = drawing[ring][0]
    met = 0
    for k in range(len(letter[other])):
        start, end = drawing[other][k - 1], drawing[other][k]
        met += common_inner_place((x, y), (x + 10 ** 6, y + 1), start, end)
    return met % 2 == 1


class FormCase(Case):
    def told(self, letter, drawing, answer):
        """The answer for the drawing in integers, in fractions, smaller, and in lists."""
        self.assertEqual(slow_fault(letter, drawing), answer)
        for same in (drawing, as_fractions(drawing), shrunk(drawing, 6), as_lists(drawing), as_lists(shrunk(drawing, 7))):
            got = fault(letter, same)
            self.assertEqual(got, answer)
            self.plain(got)
        self.assertEqual(fault(as_lists(letter), drawing), answer)


class FallTest(FormCase):
    def test_each_side(self):
        for k in range(4):
            row = list(SQUARE)
            row[(k + 1) % 4] = row[k]
            self.told((ANY,), (row,), ("fall", (0, k)))

    def test_last_side_of_each_ring(self):
        good = ((20, 20), (30, 20), (20, 30))
        self.told((THREE, THREE), (((0, 0), (8, 0), (0, 0)), good), ("fall", (0, 2)))
        self.told((THREE, THREE), (good, ((0, 0), (8, 0), (0, 0))), ("fall", (1, 2)))

    def test_least_side(self):
        self.told((ANY,), (((1, 1), (1, 1), (5, 5), (5, 5)),), ("fall", (0, 0)))
        self.told((ANY,), (((1, 1), (3, 1), (5, 5), (5, 5)),), ("fall", (0, 2)))
        self.told((THREE, THREE), (((0, 0), (8, 0), (0, 0)), ((9, 9), (9, 9), (1, 1))), ("fall", (0, 2)))

    def test_everything_in_one_place(self):
        self.told((ANY,), (((1, 1),) * 4,), ("fall", (0, 0)))

    def test_ahead_of_touch_cross_and_bend(self):
        drawing = (((4, 0), (8, 8), (0, 8)), ((0, 0), (8, 0), (8, 0)))
        self.told((("right",) * 3, THREE), drawing, ("fall", (1, 1)))

    def test_a_list_and_a_tuple_are_one_place(self):
        self.assertEqual(fault((THREE,), ([[1, 1], (1, 1), [0, 5]],)), ("fall", (0, 0)))
        self.assertEqual(fault((THREE,), ([[1, 1], ((1, 1), [1, 1]), [0, 5]],)), ("fall", (0, 0)))

    def test_corners_apart_by_one_axis_have_not_fallen(self):
        self.told((THREE,), (((0, 0), (0, 5), (5, 0)),), None)

    def test_two_corners_in_one_place_that_are_no_ends_of_one_side(self):
        self.told((ANY,), (((0, 0), (5, 0), (0, 0), (0, 5)),), ("touch", (0, 0), (0, 1)))


class TouchTest(FormCase):
    def test_inner_place_of_a_side(self):
        self.told((THREE, THREE), (((0, 0), (8, 0), (0, 8)), ((4, 0), (8, -9), (0, -9))), ("touch", (1, 0), (0, 0)))

    def test_ends_are_included(self):
        self.told((THREE, THREE), (((0, 0), (8, 0), (0, 8)), ((8, 0), (20, -9), (20, 9))), ("touch", (0, 1), (1, 0)))

    def test_no_end_of_the_side(self):
        self.told((ANY,), (SQUARE,), None)
        self.told((LEFT,), (SQUARE,), None)

    def test_a_side_bent_back_onto_its_neighbour(self):
        self.told((ANY,), (((0, 0), (8, 0), (4, 0), (4, 9)),), ("touch", (0, 2), (0, 0)))
        self.told((ANY,), (((0, 0), (4, 0), (-2, 0), (4, 9)),), ("touch", (0, 0), (0, 1)))

    def test_three_corners_in_one_line(self):
        self.told((THREE,), (((0, 0), (4, 4), (9, 9)),), ("touch", (0, 1), (0, 2)))
        self.told((THREE,), (((4, 4), (0, 0), (9, 9)),), ("touch", (0, 0), (0, 1)))

    def test_on_the_last_side(self):
        self.told((ANY,), (((0, 0), (9, 0), (0, 4), (0, 9)),), ("touch", (0, 2), (0, 3)))

    def test_on_the_line_but_beyond_the_side(self):
        self.told((THREE, THREE), (((0, 0), (8, 0), (0, 8)), ((9, 0), (20, -9), (20, 9))), None)
        self.told((THREE, THREE), (((0, 0), (8, 8), (0, 8)), ((9, 9), (20, 9), (20, 19))), None)
        self.told((THREE, THREE), (((0, 0), (8, 8), (0, 8)), ((-1, -1), (-20, -9), (-20, -19))), None)
        self.told((THREE, THREE), (((0, 0), (0, 8), (5, 4)), ((0, 9), (5, 19), (-5, 19))), None)

    def test_least_corner_then_least_side(self):
        # corner (0, 1) lies on (1, 2), and (1, 0) on (0, 0) and (0, 1), whose common end is (0, 1)
        self.told((THREE, THREE), (((0, 0), (8, 0), (0, 8)), ((8, 0), (9, -9), (9, 9))), ("touch", (0, 1), (1, 0)))
        # corner (1, 1) lies on two sides
        self.told((ANY, THREE), (((0, 0), (8, 0), (8, 8), (0, 8)), ((4, 4), (8, 8), (4, 5))), ("touch", (0, 2), (1, 0)))
        self.told((("any",) * 7,), (((0, 0), (9, 0), (9, 9), (4, 0), (-9, 9), (-9, 5), (5, -7)),),
                  ("touch", (0, 3), (0, 0)))

    def test_a_corner_of_the_first_ring_on_a_side_of_the_second(self):
        self.told((THREE, THREE), (((0, 0), (-8, 0), (0, 8)), ((0, -5), (0, 3), (9, 0))), ("touch", (0, 0), (1, 0)))

    def test_ahead_of_cross_and_bend(self):
        drawing = (((0, 0), (8, 0), (0, 8)), ((4, 4), (9, 9), (4, -9)))
        self.told((("right",) * 3, THREE), drawing, ("touch", (1, 0), (0, 1)))

    def test_at_a_fraction_only(self):
        letter = (THREE, THREE)
        drawing = (((0, 0), (3, 1), (0, 8)), (((1, 1), (1, 3)), (9, -9), (0, -9)))
        self.assertEqual(fault(letter, drawing), ("touch", (1, 0), (0, 0)))
        near = (((0, 0), (3, 1), (0, 8)), (((1, 1), (333333, 10 ** 6)), (9, -9), (0, -9)))
        self.assertIsNone(fault(letter, near))
        over = (((0, 0), (3, 1), (0, 8)), (((1, 1), (333337, 10 ** 6)), (9, -9), (0, -9)))
        self.assertEqual(fault(letter, over), ("cross", (0, 0), (1, 0)))


class CrossTest(FormCase):
    def test_in_one_ring(self):
        self.told((ANY,), (((0, 0), (8, 8), (8, 0), (0, 8)),), ("cross", (0, 0), (0, 2)))
        self.told((ANY,), (((0, 0), (8, 0), (0, 8), (8, 8)),), ("cross", (0, 1), (0, 3)))

    def test_between_rings(self):
        self.told((THREE, THREE), (((0, 0), (8, 0), (0, 8)), ((2, 2), (20, 1), (20, 3))), ("cross", (0, 1), (1, 0)))

    def test_least_side_then_least_crossed_one(self):
        star = (((0, 9), (-5, -7), (8, 3), (-8, 3), (5, -7)),)
        self.told((("any",) * 5,), star, ("cross", (0, 0), (0, 2)))
        late = (((20, 0), (0, 9), (0, -9), (9, 4), (-9, 4)),)
        self.told((("any",) * 5,), late, ("cross", (0, 1), (0, 3)))
        self.told((THREE, THREE, THREE), (((50, 50), (60, 50), (50, 60)), ((0, 0), (8, 0), (0, 8)),
                                          ((2, 2), (20, 1), (20, 3))), ("cross", (1, 1), (2, 0)))

    def test_lines_that_would_cross_beyond_their_ends(self):
        self.told((THREE, THREE), (((0, 0), (8, 0), (0, 8)), ((9, 1), (20, -30), (20, 30))), None)

    def test_ahead_of_bend(self):
        self.told((("left", "any", "any", "right"),), (((0, 0), (8, 8), (8, 0), (0, 8)),), ("cross", (0, 0), (0, 2)))

    def test_far_corners(self):
        self.told((ANY,), (((-99, -99), (99, 99), (99, -99), (-99, 98)),), ("cross", (0, 0), (0, 2)))
        self.told((ANY,), (((-99, -99), (99, 98), (99, 99), (-99, -98)),), None)


class BendTest(FormCase):
    def test_manners(self):
        for manner, answer in (("any", None), ("left", None), ("right", ("bend", (0, 0))),
                               ("straight", ("bend", (0, 0)))):
            self.told(((manner, "any", "any"),), (((0, 0), (8, 0), (0, 8)),), answer)
        for manner, answer in (("any", None), ("right", None), ("left", ("bend", (0, 0))),
                               ("straight", ("bend", (0, 0)))):
            self.told(((manner, "any", "any"),), (((0, 0), (0, 8), (8, 0)),), answer)
        for manner, answer in (("any", None), ("straight", None), ("left", ("bend", (0, 1))),
                               ("right", ("bend", (0, 1)))):
            self.told((("any", manner, "any", "any"),), (((0, 0), (4, 0), (8, 0), (0, 8)),), answer)

    def test_each_corner(self):
        for k in range(4):
            row = list(LEFT)
            row[k] = "right"
            self.told((tuple(row),), (SQUARE,), ("bend", (0, k)))

    def test_least_corner(self):
        self.told((("any", "right", "straight", "right"),), (SQUARE,), ("bend", (0, 1)))
        apart = tuple((x + 20, y) for x, y in SQUARE)
        self.told((("left", "left", "left", "right"), ("right",) * 4), (SQUARE, apart), ("bend", (0, 3)))
        self.told((LEFT, ("any", "left", "right", "left")), (SQUARE, apart), ("bend", (1, 2)))

    def test_nearly_straight(self):
        letter = (("any", "straight", "any", "any"),)
        self.assertIsNone(fault(letter, (((0, 0), ((1, 3), (1, 3)), (1, 1), (0, 8)),)))
        self.assertEqual(fault(letter, (((0, 0), ((1, 3), (333333, 10 ** 6)), (1, 1), (0, 8)),)), ("bend", (0, 1)))


class FaultTest(FormCase):
    def test_example_of_the_document(self):
        letter = (("left", "left", "any", "left"),)
        self.told(letter, (((0, 0), (8, 0), (8, 8), (0, 8)),), None)
        self.told(letter, (((0, 0), (8, 0), (2, 2), (0, 8)),), None)
        self.told(letter, (((0, 0), (8, 0), (-2, -2), (0, 8)),), ("bend", (0, 1)))
        self.told(letter, (((0, 0), (8, 0), (0, 0), (0, 8)),), ("touch", (0, 0), (0, 1)))

    def test_mixtures(self):
        letter = (("left", "left", "any", "left"),)
        masters = ((((0, 0), (8, 0), (8, 8), (0, 8)),), (((0, 0), (8, 0), (-2, -2), (0, 8)),))
        self.assertIsNone(fault(letter, mixture(letter, masters, ((21, 100), (79, 100)))))
        self.assertEqual(fault(letter, mixture(letter, masters, ((1, 5), (4, 5)))), ("touch", (0, 0), (0, 1)))
        self.assertEqual(fault(letter, mixture(letter, masters, ((19, 100), (81, 100)))), ("bend", (0, 1)))

    def test_mixtures_with_large_fractions(self):
        letter = (("left", "straight", "left", "left"),)
        masters = ((((2, -3), (3, 3), (4, 9), (-5, 6)),), (((1, 1), (5, 5), (9, 9), (-3, 8)),),
                   (((0, 9), (-4, 5), (-8, 1), (7, -9)),), (((0, 0), (4, 0), (8, 0), (0, 8)),))
        weights = ((1, 999983), (2, 999979), (3, 999961))
        bottom = 999983 * 999979 * 999961
        rest = bottom - sum(top * (bottom // part) for top, part in weights)
        mixed = mixture(letter, masters, weights + ((rest, bottom),))
        self.assertGreater(max(b for row in mixed for place in row for _, b in place), 10 ** 17)
        self.assertIsNone(fault(letter, mixed))
        straight = mixed[0][1]
        nearby = (straight[0], (straight[1][0] - 1, straight[1][1]))
        bent = ((mixed[0][0], nearby) + mixed[0][2:],)
        self.assertEqual(fault(letter, bent), ("bend", (0, 1)))
        self.assertEqual(slow_fault(letter, exact_drawing(bent)), ("bend", (0, 1)))

    def test_integers_and_fractions_side_by_side(self):
        self.assertIsNone(fault((LEFT,), (((0, (0, 1)), ((17, 2), 0), [[8, 1], 8], (0, 8)),)))

    def test_from_minus_99_to_99(self):
        row = [(-99, -99), (99, -99), (99, 99), (-99, 99)]
        self.told((LEFT,), (row,), None)
        for odd in (100, -100, (100, 1), (-100, 1), (199, 2), (-199, 2), (99 * 10 ** 6 + 1, 10 ** 6)):
            for place in ((odd, 0), (0, odd)):
                self.refused(1, fault, (LEFT,), (row[:3] + [place],))
        self.assertIsNone(fault((LEFT,), (row[:3] + [((-99 * 10 ** 6 + 1, 10 ** 6), (99, 1))],)))

    def test_no_fractions(self):
        for odd in ((2, 4), (0, 2), (1, -2), (1, 0), (0, 0), (-1, -1), (1,), (1, 1, 1), (True, 1), (1, True),
                    (1, "1"), "11", True, False, None, ((1, 1), 1)):
            for k in range(4):
                row = list(SQUARE)
                row[k] = (odd, 3)
                self.refused(1, fault, (LEFT,), (row,))
                row[k] = (3, odd)
                self.refused(1, fault, (LEFT,), (row,))

    def test_no_letter(self):
        for value in ODD_VALUES + ((("left", "left"),), (("left",) * 9,), (("up",) * 3,)):
            self.refused(0, fault, value, (SQUARE,))
            self.refused(0, fault, value, None)

    def test_no_drawing(self):
        for value in ODD_VALUES + (SQUARE, (SQUARE[:3],), (SQUARE, SQUARE), (SQUARE + ((3, 3),),),
                                   (SQUARE[:3] + ((1,),),), (SQUARE[:3] + ((1, 2, 3),),), (SQUARE[:3] + ("12",),)):
            self.refused(1, fault, (LEFT,), value)

    def test_arguments_are_left_alone(self):
        args = [as_lists((LEFT,)), as_lists(as_fractions((SQUARE,)))]
        kept = copy.deepcopy(args)
        fault(*args)
        self.assertEqual(args, kept)

    def test_by_name(self):
        self.assertIsNone(fault(drawing=(SQUARE,), letter=(LEFT,)))

    def test_like_a_slow_one(self):
        chance = random.Random(11)
        seen = {}
        for _ in range(6000):
            sizes = chance.choice(((3,), (4,), (5,), (3, 3), (4, 3), (3, 4), (3, 3, 3)))
            width = chance.choice((2, 3, 5, 9, 30))
            manners = chance.choice((("any",), ("any", "left"), ("any", "any", "left", "right", "straight")))
            letter = tuple(tuple(chance.choice(manners) for _ in range(many)) for many in sizes)
            drawing = tuple(tuple((chance.randint(-width, width), chance.randint(-width, width)) for _ in row)
                            for row in letter)
            answer = slow_fault(letter, drawing)
            seen.setdefault(answer and answer[0], []).append(answer)
            self.assertEqual(fault(letter, drawing), answer)
            self.assertEqual(fault(letter, shrunk(drawing, 12)), answer)
        self.assertEqual({word for word in seen if len(seen[word]) > 100}, {None, "fall", "touch", "cross", "bend"})

    def test_mixtures_like_a_slow_one(self):
        chance = random.Random(12)
        for _ in range(1500):
            sizes = chance.choice(((3,), (4,), (6,), (3, 3), (4, 4)))
            letter = tuple(tuple(chance.choice(("any", "any", "left", "right")) for _ in range(many)) for many in sizes)
            masters = [[[[chance.randint(-3, 3), chance.randint(-3, 3)] for _ in row] for row in letter]
                       for _ in range(2)]
            bottom = chance.choice((2, 3, 5))
            top = chance.randint(1, bottom - 1)
            mixed = mixture(letter, masters, ((top, bottom), (bottom - top, bottom)))
            self.assertEqual(fault(letter, mixed), slow_fault(letter, exact_drawing(mixed)))


class InsideTest(FormCase):
    BIG = ((-20, -20), (20, -20), (20, 20), (-20, 20))
    SMALL = ((0, 0), (4, 0), (0, 4))

    def test_within_and_around(self):
        for big in (self.BIG, self.BIG[::-1]):
            for small in (self.SMALL, self.SMALL[::-1]):
                self.assertIs(inside((ANY, THREE), (big, small), 1, 0), True)
                self.assertIs(inside((ANY, THREE), (big, small), 0, 1), False)
                self.assertIs(inside((THREE, ANY), (small, big), 0, 1), True)
                self.assertIs(inside((THREE, ANY), (small, big), 1, 0), False)

    def test_apart_on_every_hand(self):
        for dx in (-50, 0, 50):
            for dy in (-50, 0, 50):
                small = tuple((x + dx, y + dy) for x, y in self.SMALL)
                self.assertIs(inside((ANY, THREE), (self.BIG, small), 1, 0), dx == 0 and dy == 0)
                self.assertIs(inside((ANY, THREE), (self.BIG, small), 0, 1), False)

    def test_within_one_within_one(self):
        drawing = (((-1, -1), (1, -1), (0, 1)), ((-90, -90), (90, -90), (0, 90)), ((-9, -9), (9, -9), (0, 9)))
        letter = (THREE, THREE, THREE)
        for ring in range(3):
            for other in range(3):
                if ring != other:
                    self.assertIs(inside(letter, drawing, ring, other), (ring, other) in ((0, 1), (0, 2), (2, 1)))

    def test_a_notch_is_outside(self):
        notched = ((0, 0), (30, 0), (30, 30), (20, 30), (20, 10), (10, 10), (10, 30))
        for x, y, within in ((14, 20, False), (4, 4, True), (24, 20, True), (14, 4, True), (40, 20, False)):
            small = ((x, y), (x + 1, y), (x, y + 1))
            self.assertIs(inside((("any",) * 7, THREE), (notched, small), 1, 0), within)

    def test_level_with_corners(self):
        diamond = ((0, -10), (10, 0), (0, 10), (-10, 0))
        for x, y, within in ((0, 0, True), (-20, 0, False), (20, 0, False), (-20, 10, False), (-20, -10, False)):
            small = ((x, y), (x + 1, y + 1), (x, y + 1))
            self.assertIs(inside((ANY, THREE), (diamond, small), 1, 0), within)
        comb = ((-10, 5), (0, 0), (5, 5), (10, 0), (20, 5), (20, -9), (-10, -9))
        for x, y, within in ((-20, 0, False), (-9, 0, True), (-20, 5, False), (-5, 5, False), (3, 0, True)):
            small = ((x, y), (x, y - 1), (x + 1, y - 1)) if y == 0 else ((x, y), (x, y + 1), (x + 1, y + 1))
            self.assertIs(inside((("any",) * 7, THREE), (comb, small), 1, 0), within)

    def test_a_bend_is_no_hindrance(self):
        letter = (("right",) * 4, ("straight",) * 3)
        self.assertEqual(fault(letter, (self.BIG, self.SMALL)), ("bend", (0, 0)))
        self.assertIs(inside(letter, (self.BIG, self.SMALL), 1, 0), True)
        self.assertIs(inside(letter, (self.BIG, self.SMALL), 0, 1), False)

    def test_lists_and_tuples(self):
        self.assertIs(inside([list(ANY), THREE], [self.BIG, as_lists(self.SMALL)], 1, 0), True)
        self.assertIs(inside([list(ANY), THREE], as_lists((self.BIG, self.SMALL)), 0, 1), False)

    def test_like_a_slow_one(self):
        chance = random.Random(13)
        seen = {True: 0, False: 0}
        for _ in range(6000):
            sizes = chance.choice(((3, 3), (4, 3), (3, 5), (3, 3, 3)))
            letter = tuple(("any",) * many for many in sizes)
            drawing = []
            for _ in sizes:
                x, y, width = chance.randint(-2, 2), chance.randint(-2, 2), chance.choice((2, 6, 12))
                drawing.append([(x + chance.randint(-width, width), y + chance.randint(-width, width))
                                for _ in range(sizes[len(drawing)])])
            if slow_fault(letter, drawing) is None:
                for ring, other in ((0, 1), (1, 0)) if len(sizes) == 2 else ((0, 2), (2, 1), (1, 2)):
                    answer = slow_inside(letter, drawing, ring, other)
                    seen[answer] += 1
                    self.assertIs(inside(letter, drawing, ring, other), answer)
        self.assertGreater(min(seen.values()), 100)

    def test_no_letter(self):
        for value in ODD_VALUES:
            self.refused(0, inside, value, (self.BIG, self.SMALL), 1, 0)
            self.refused(0, inside, value, None, None, None)

    def test_no_drawing(self):
        for value in ODD_VALUES + ((self.BIG,), (self.SMALL, self.BIG), (self.BIG, self.BIG),
                                   (self.BIG, ((0, 0), (100, 0), (0, 4))), (self.BIG, ((0, True), (4, 0), (0, 4)))):
            self.refused(1, inside, (ANY, THREE), value, 1, 0)
            self.refused(1, inside, (ANY, THREE), value, None, None)

    def test_no_drawing_of_integers(self):
        letter = (ANY, THREE)
        drawing = (self.BIG, self.SMALL)
        self.refused(1, inside, letter, as_fractions(drawing), 1, 0)
        self.refused(1, inside, letter, mixture(letter, (drawing,), ((1, 1),)), 1, 0)
        self.refused(1, inside, letter, (self.BIG, ((0, (1, 2)),) + self.SMALL[1:]), 1, 0)

    def test_drawings_with_other_faults(self):
        letter = (("left",) * 4, THREE)
        for small, word in ((((0, 0), (4, 0), (4, 0)), "fall"), (((0, 0), (20, 0), (0, 4)), "touch"),
                            (((0, 0), (30, 1), (0, 4)), "cross")):
            self.assertEqual(fault(letter, (self.BIG, small))[0], word)
            for ring, other in ((1, 0), (0, 1), (0, 0), (5, None)):
                self.refused(1, inside, letter, (self.BIG, small), ring, other)

    def test_no_ring(self):
        letter, drawing = (ANY, THREE), (self.BIG, self.SMALL)
        for odd in (-1, 2, 10 ** 30, True, False, None, "", "1", (), [1], (0, 1), (1, 1)):
            for other in (0, 1, odd, None):
                self.refused(2, inside, letter, drawing, odd, other)
            self.refused(3, inside, letter, drawing, 0, odd)
            self.refused(3, inside, letter, drawing, 1, odd)

    def test_the_same_ring(self):
        for ring in range(2):
            self.refused(3, inside, (ANY, THREE), (self.BIG, self.SMALL), ring, ring)

    def test_a_letter_of_one_ring(self):
        self.refused(3, inside, (ANY,), (self.BIG,), 0, 0)
        self.refused(3, inside, (ANY,), (self.BIG,), 0, 1)
        self.refused(2, inside, (ANY,), (self.BIG,), 1, 0)

    def test_last_ring_of_three(self):
        drawing = (((-9, -9), (9, -9), (0, 9)), ((-90, -90), (-80, -90), (-85, -80)), ((-1, -1), (1, -1), (0, 1)))
        letter = (THREE, THREE, THREE)
        self.assertIs(inside(letter, drawing, 2, 0), True)
        self.assertIs(inside(letter, drawing, 0, 2), False)
        self.refused(2, inside, letter, drawing, 3, 0)
        self.refused(3, inside, letter, drawing, 0, 3)

    def test_arguments_are_left_alone(self):
        args = [as_lists((ANY, THREE)), as_lists((self.BIG, self.SMALL)), 1, 0]
        kept = copy.deepcopy(args)
        inside(*args)
        self.assertEqual(args, kept)

    def test_by_name(self):
        self.assertIs(inside(other=0, ring=1, drawing=(self.BIG, self.SMALL), letter=(ANY, THREE)), True)


if __name__ == "__main__":
    unittest.main()
