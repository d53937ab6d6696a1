"""Promises 1, 2, 5, 11, 17 and 28 to 31: meetings, fallen sides, bent corners, rooms that are kept."""

import copy
import random
import time
import unittest
from fractions import Fraction
from itertools import permutations

from helpers import ODD_VALUES, Case, as_lists, corners_of, ends_of, exact_number, grid, nearby, pairs_of, places_of
from helpers import random_drawing, slow_bent, slow_fallen, slow_fault, slow_meetings, slow_mixture, spots_to_try
from helpers import usual_manners, weights_for_share, weights_for_zero
from keptform.forms import fault
from keptform.letters import mixture
from keptform.rooms import bent, fallen, is_kept, meetings
from keptform.shares import shares
from keptform.turns import greatest_turn, least_turn

LEFT = (("left", "left", "left"),)
ANY = (("any", "any", "any"),)
FOUR = (("left", "left", "any", "left"),)
SQUARE = (((0, 0), (8, 0), (8, 8), (0, 8)),)
# The turn is 4 * (x * x + y * y - 1), (x, y) being the mean of (6, 0), (-2, 4) and (-2, -4).
AROUND = ((((0, 0), (14, 0), (0, 10)),), (((0, 0), (-2, 8), (-8, -6)),), (((0, 0), (-2, -8), (8, -6)),))
# All corners come together at the weights (1, 3, 3) / 7, and nowhere else.
SHRINKING = ((((0, 0), (12, 0), (0, 12)),), (((0, 0), (-2, 4), (-4, -2)),), (((0, 0), (-2, -4), (4, -2)),))


class RoomCase(Case):
    def told(self, letter, masters, met, fell, bend):
        """The answers, for the masters in any sequence and with one of them twice, and for lists."""
        for many in list(permutations(masters)) + [tuple(masters[:1]) + tuple(masters)]:
            if len(many) <= 4:
                self.assertEqual(meetings(letter, many), met)
                self.assertEqual(fallen(letter, many), fell)
                self.assertEqual(bent(letter, many), bend)
                self.assertIs(is_kept(letter, many), self.kept(letter, many, met, fell, bend))
                for call in (meetings, fallen, bent):
                    self.plain(call(letter, many))
                    self.assertEqual(call(as_lists(letter), as_lists(many)), call(letter, many))
        self.has_witnesses(letter, masters)

    def kept(self, letter, masters, met, fell, bend):
        return not met and not fell and not bend and slow_fault(letter, masters[0]) is None

    def has_witnesses(self, letter, masters):
        """For all that is told there is a mixture in which it is so."""
        for corner, side in meetings(letter, masters):
            share = exact_number(shares(letter, masters, corner, side)[0][0])
            weights = weights_for_share(letter, masters, corner, side, share)
            self.assertIn((corner, side), slow_meetings(letter, slow_mixture(masters, weights)))
        for side in fallen(letter, masters):
            at = [places_of(master) for master in masters]
            first, last = ends_of(letter, side)
            weights = weights_for_zero([[row[last][c] - row[first][c] for c in range(2)] for row in at])
            self.assertIn(side, slow_fallen(letter, slow_mixture(masters, weights)))
        for corner in bent(letter, masters):
            least, greatest = least_turn(letter, masters, corner), greatest_turn(letter, masters, corner)
            tries = [[Fraction(*weight) for weight in weights] for _, weights in (least, greatest)]
            self.assertTrue(any(corner in slow_bent(letter, slow_mixture(masters, weights)) for weights in tries))

    def nothing_else(self, letter, masters, steps):
        """What mixtures on a grid show is among what is told."""
        met, fell, bend = meetings(letter, masters), fallen(letter, masters), bent(letter, masters)
        kept = is_kept(letter, masters)
        for weights in grid(len(masters), steps):
            mixed = slow_mixture(masters, weights)
            self.assertLessEqual(set(slow_meetings(letter, mixed)), set(met))
            self.assertLessEqual(set(slow_fallen(letter, mixed)), set(fell))
            self.assertLessEqual(set(slow_bent(letter, mixed)), set(bend))
            if kept:
                self.assertIsNone(slow_fault(letter, mixed))
        if not kept and not met and not fell and not bend:
            self.assertEqual(slow_fault(letter, masters[0])[0], "cross")


class RoomTest(RoomCase):
    def test_example_of_the_document(self):
        other, far = (((0, 0), (8, 0), (2, 2), (0, 8)),), (((0, 0), (8, 0), (-2, -2), (0, 8)),)
        self.told(FOUR, (SQUARE, other), (), (), ())
        self.assertIs(is_kept(FOUR, (SQUARE, other)), True)
        met = (((0, 0), (0, 1)), ((0, 0), (0, 2)), ((0, 2), (0, 0)), ((0, 2), (0, 3)))
        self.told(FOUR, (SQUARE, far), met, (), ((0, 1), (0, 3)))
        self.assertIs(is_kept(FOUR, (SQUARE, far)), False)

    def test_spots_of_the_document(self):
        one = (((0, 0), (0, 1), (-1, 0)),)
        other = (((0, 0), (-1, -4), (0, -1)),)
        self.assertIs(is_kept(LEFT, (one,)), True)
        self.assertIs(is_kept(LEFT, (other,)), True)
        self.assertIs(is_kept(LEFT, (one, other)), False)
        self.assertEqual(bent(LEFT, (one, other)), ((0, 0), (0, 1), (0, 2)))

    def test_one_master_alone(self):
        self.told(FOUR, (SQUARE,), (), (), ())
        self.told(FOUR, (SQUARE,) * 3, (), (), ())
        self.assertIs(is_kept(FOUR, (SQUARE,)), True)
        self.told(FOUR, ((((0, 0), (8, 0), (8, 0), (0, 8)),),), (((0, 1), (0, 2)), ((0, 2), (0, 0))), ((0, 1),),
                  ((0, 1),))

    def test_one_master_like_fault(self):
        chance = random.Random(41)
        for _ in range(400):
            letter = chance.choice((LEFT, FOUR, ANY + LEFT, (("any",) * 4, ("any", "right", "straight"))))
            master = random_drawing(chance, letter, chance.choice((1, 2, 9)))
            self.assertEqual(list(meetings(letter, [master])), slow_meetings(letter, master))
            self.assertEqual(list(fallen(letter, [master])), slow_fallen(letter, master))
            self.assertEqual(list(bent(letter, [master])), slow_bent(letter, master))
            self.assertIs(is_kept(letter, [master]), fault(letter, master) is None)

    def test_four_masters(self):
        row = (SQUARE, (((0, 0), (9, 1), (9, 7), (1, 9)),), (((-1, 0), (8, -1), (5, 6), (0, 8)),),
               (((0, 0), (8, 0), (2, 2), (0, 8)),))
        self.told(FOUR, row, (), (), ())
        self.assertIs(is_kept(FOUR, row), True)
        self.nothing_else(FOUR, row, 5)

    def test_a_fault_that_no_two_masters_have(self):
        corners = ((0, 0), (0, 1), (0, 2))
        for one in AROUND:
            self.assertIsNone(fault(LEFT, one))
            for other in AROUND:
                self.assertIs(is_kept(LEFT, (one, other)), True)
        self.assertIs(is_kept(LEFT, AROUND), False)
        self.assertEqual(bent(LEFT, AROUND), corners)
        self.assertEqual(fallen(LEFT, AROUND), corners)
        self.assertEqual(len(meetings(LEFT, AROUND)), 3)
        self.assertIs(is_kept(ANY, AROUND), False)
        self.assertEqual(bent(ANY, AROUND), ())
        self.has_witnesses(LEFT, AROUND)

    def test_a_side_that_falls_only_inside_of_the_room(self):
        sides = ((0, 0), (0, 1), (0, 2))
        met = (((0, 0), (0, 1)), ((0, 1), (0, 2)), ((0, 2), (0, 0)))
        self.told(LEFT, SHRINKING, met, sides, sides)
        for one in SHRINKING:
            for other in SHRINKING:
                self.told(LEFT, (one, other), (), (), ())
                self.assertIs(is_kept(LEFT, (one, other)), True)

    def test_one_side_falls_inside_of_four_masters(self):
        # Only the second corner comes to the first one.
        masters = tuple((((0, 0), place, (30, 40), (0, 50)),) for place in ((9, 0), (-9, 1), (2, -9), (3, 9)))
        letter = (("any",) * 4,)
        self.assertEqual(fallen(letter, masters), ((0, 0),))
        for without in range(4):
            rest = masters[:without] + masters[without + 1:]
            expected = weights_for_zero([drawing[0][1] for drawing in rest]) is not None
            self.assertEqual(fallen(letter, rest), ((0, 0),) if expected else ())
        self.has_witnesses(letter, masters)

    def test_fallen_between_two_masters(self):
        masters = ((((0, 0), (3, 6), (0, 9)),), (((0, 0), (-1, -2), (0, 9)),))
        self.told(ANY, masters, (((0, 0), (0, 1)), ((0, 1), (0, 2))), ((0, 0),), ())
        masters = ((((0, 0), (3, 6), (0, 9)),), (((0, 0), (1, 2), (0, 9)),))
        self.told(ANY, masters, (), (), ())
        masters = ((((0, 0), (3, 6), (0, 9)),), (((0, 0), (-1, -3), (0, 9)),))
        self.assertEqual(fallen(ANY, masters), ())

    def test_a_corner_that_meets_a_side_only_at_its_end(self):
        letter = (("any",) * 3, ("any",) * 3)
        base = ((0, 0), (8, 0), (0, 8))
        # It comes to the common end of two sides, from outside, and no further.
        masters = tuple((base, ((x, 0), (20, -9), (20, 9))) for x in (8, 10))
        met = (((0, 1), (1, 0)), ((0, 1), (1, 2)), ((1, 0), (0, 0)), ((1, 0), (0, 1)))
        self.told(letter, masters, met, (), ())
        self.assertEqual(shares(letter, masters, (1, 0), (0, 0)), (((1, 1), (1, 1)),))
        self.assertEqual(shares(letter, masters, (1, 0), (0, 1)), (((0, 1), (0, 1)),))
        masters = tuple((base, ((x, 0), (20, -9), (20, 9))) for x in (9, 10))
        self.told(letter, masters, (), (), ())

    def test_a_meeting_at_no_fraction(self):
        # The corner crosses the side at t with t * t + t - 1 = 0, alone.
        masters = ((((0, 0), (0, 1), (1, -1)),), (((1, 1), (-1, -1), (-1, 1)),))
        self.assertEqual(shares(ANY, masters, (0, 2), (0, 0)), (((1, 1, -1, 1), (1, 1, -1, 1)),))
        self.assertIn(((0, 2), (0, 0)), meetings(ANY, masters))
        self.assertIs(is_kept(ANY, masters), False)

    def test_rings_meet_each_other(self):
        letter = (("any",) * 3, ("any",) * 3)
        base = ((0, 0), (9, 0), (0, 9))
        masters = tuple((base, ((x, 1), (x + 2, 1), (x, 3))) for x in (1, 20))
        met = meetings(letter, masters)
        self.assertEqual(met, (((1, 0), (0, 1)), ((1, 1), (0, 1)), ((1, 2), (0, 1))))
        self.assertIs(is_kept(letter, masters), False)
        self.assertIs(is_kept(letter, masters[:1]), True)
        self.assertIs(is_kept(letter, masters[1:]), True)
        self.has_witnesses(letter, masters)

    def test_sides_that_cross_everywhere(self):
        letter = (("any",) * 4,)
        masters = tuple((((0, 0), (8, 8 + k), (8, 0), (0, 8)),) for k in range(4))
        self.told(letter, masters, (), (), ())
        self.assertIs(is_kept(letter, masters), False)
        self.assertIs(is_kept(letter, masters[:1]), False)

    def test_manners(self):
        one = (((0, 0), (8, 0), (0, 8)),)
        wide = (((0, 0), (9, 1), (0, 8)),)
        for manner, left, right in (("any", True, True), ("left", True, False), ("right", False, True),
                                    ("straight", False, False)):
            letter = (("any", manner, "any"),)
            self.told(letter, (one, wide), (), (), () if left else ((0, 1),))
            self.assertIs(is_kept(letter, (one, wide)), left)
            mirrored = tuple(((drawing[0][2], drawing[0][1], drawing[0][0]),) for drawing in (one, wide))
            self.assertIs(is_kept(letter, mirrored), right)
            self.told(letter, mirrored, (), (), () if right else ((0, 1),))

    def test_a_turn_of_0_is_neither_left_nor_right(self):
        masters = tuple((((0, 0), (4, y), (8, 0), (4, 40)),) for y in (0, -4))
        for manner in ("left", "right", "straight"):
            self.assertEqual(bent((("any", manner, "any", "any"),), masters), ((0, 1),))
        self.assertEqual(bent((("any", "left", "any", "any"),), masters[1:]), ())
        masters = tuple((((0, 0), (4, y), (8, 0), (4, 40)),) for y in (1, 5))
        self.assertEqual(bent((("any", "right", "any", "any"),), masters), ())

    def test_a_straight_corner(self):
        letter = (("any", "straight", "any", "any"),)
        one = (((0, 0), (2, 0), (4, 0), (2, 9)),)
        halfway = (((0, 0), (0, 2), (0, 4), (-9, 2)),)
        self.told(letter, (one, halfway), (), (), ())
        self.assertIs(is_kept(letter, (one, halfway)), True)
        # No master bends it, but mixtures do, as it is not halfway in the other one.
        early = (((0, 0), (0, 1), (0, 4), (-9, 2)),)
        self.assertIs(is_kept(letter, (early,)), True)
        self.told(letter, (one, early), (), (), ((0, 1),))
        self.assertIs(is_kept(letter, (one, early)), False)
        # Another master gives the corner a turn of the other sign: the turn is 0 at places, but not everywhere.
        self.told(letter, ((((0, 0), (2, -1), (4, 0), (2, 9)),), (((0, 0), (2, 1), (4, 0), (2, 9)),)), (), (),
                  ((0, 1),))

    def test_every_corner_and_side_is_looked_at(self):
        letter = (("left",) * 3, ("right",) * 4, ("left",) * 3)
        base = (((0, 0), (9, 0), (0, 9)), ((20, 0), (20, 9), (29, 9), (29, 0)), ((40, 0), (49, 0), (40, 9)))
        self.assertIs(is_kept(letter, (base, base)), True)
        for corner in corners_of(letter):
            r, k = corner
            flipped = as_lists(letter)
            flipped[r][k] = "straight"
            self.assertEqual(bent(flipped, (base, base)), (corner,))
            self.assertIs(is_kept(flipped, (base, base)), False)
            after = ends_of(letter, corner)[1]
            together = as_lists(base)
            together[r][k] = together[r][after[1]]
            self.assertEqual(fallen(letter, (base, together)), (corner,))
            self.assertIs(is_kept(letter, (base, together)), False)
        for corner, side in pairs_of(letter):
            moved = as_lists(base)
            first, last = [base[end[0]][end[1]] for end in ends_of(letter, side)]
            moved[corner[0]][corner[1]] = [2 * first[0] + last[0], 2 * first[1] + last[1]]
            larger = [[[3 * x, 3 * y] if moved[r][k] == list(base[r][k]) else moved[r][k]
                       for k, (x, y) in enumerate(row)] for r, row in enumerate(base)]
            shifted = [[[x - 60, y] for x, y in row] for row in larger]
            start = [[[3 * x - 60, 3 * y] for x, y in row] for row in base]
            self.assertIn((corner, side), meetings(letter, (start, shifted)))
            self.assertNotIn((corner, side), meetings(letter, (start,)))

    def test_two_masters_like_a_slow_one(self):
        chance = random.Random(42)
        seen = {True: 0, False: 0}
        for count in range(120):
            sizes = chance.choice(((3,), (4,), (5,), (3, 3)))
            width = chance.choice((1, 2, 6, 99))
            letter = tuple(("any",) * many for many in sizes)
            one = random_drawing(chance, letter, width)
            other = random_drawing(chance, letter, width)
            if count > 40:
                while slow_fault(letter, one) is not None:
                    one = random_drawing(chance, letter, max(width, 4))
                other = nearby(chance, one, width // 4 + 1)
            letter = usual_manners(chance, letter, one)
            met, fell, bend, kept = set(), set(), set(), True
            for spot in spots_to_try(one, other):
                mixed = slow_mixture((one, other), (1 - spot, spot))
                met.update(slow_meetings(letter, mixed))
                fell.update(slow_fallen(letter, mixed))
                bend.update(slow_bent(letter, mixed))
                kept = kept and slow_fault(letter, mixed) is None
            self.assertEqual(meetings(letter, (one, other)), tuple(sorted(met)))
            self.assertEqual(fallen(letter, (one, other)), tuple(sorted(fell)))
            self.assertEqual(bent(letter, (one, other)), tuple(sorted(bend)))
            self.assertIs(is_kept(letter, (one, other)), kept)
            seen[kept] += 1
        self.assertGreater(min(seen.values()), 5)

    def test_more_masters_like_slow_ones(self):
        chance = random.Random(43)
        seen = {True: 0, False: 0}
        for _ in range(60):
            letter, one = chance.choice(((LEFT, AROUND[0]), (FOUR, SQUARE), ((("any",) * 4, ANY[0]),
                                        (((-9, -9), (9, -9), (9, 9), (-9, 9)), ((-2, -2), (2, -2), (0, 2))))))
            masters = [one] + [nearby(chance, one, chance.choice((1, 2, 4, 8))) for _ in range(chance.choice((2, 3)))]
            self.nothing_else(letter, masters, 5)
            self.has_witnesses(letter, masters)
            seen[is_kept(letter, masters)] += 1
        self.assertGreater(min(seen.values()), 10)

    def test_smaller_rooms(self):
        chance = random.Random(44)
        seen = 0
        for _ in range(12):
            masters = [nearby(chance, (((0, 0), (12, 0), (12, 12), (0, 12)),), 3) for _ in range(chance.choice((3, 4)))]
            masters = [tuple(tuple((2 * x, 2 * y) for x, y in row) for row in master) for master in masters]
            if not is_kept(FOUR, masters):
                continue
            seen += 1
            halves = tuple(Fraction(k < 2, 2) for k in range(len(masters)))
            middle = tuple(tuple(tuple(map(int, place)) for place in row) for row in slow_mixture(masters, halves))
            for many in (1, 2, 3, 4):
                for some in permutations(masters + [middle], many):
                    self.assertIs(is_kept(FOUR, some), True)
        self.assertGreater(seen, 2)

    def test_a_kept_room_in_reasonable_time(self):
        chance = random.Random(45)
        big = ((0, -99), (94, -31), (58, 80), (-58, 80), (-94, -31))
        small = ((0, -30), (28, -9), (17, 24), (-17, 24), (-28, -9))
        letter = (("left",) * 5, ("left",) * 5)
        masters = [nearby(chance, (big, small), 6) for _ in range(4)]
        start = time.perf_counter()
        self.assertIs(is_kept(letter, masters), True)
        self.assertLess(time.perf_counter() - start, 2)
        for weights in grid(4, 3):
            self.assertIsNone(slow_fault(letter, slow_mixture(masters, weights)))

    def test_far_places_in_reasonable_time(self):
        chance = random.Random(46)
        start = time.perf_counter()
        for sizes in ((5, 5), (8,), (4, 3, 3), (3, 7)):
            letter = tuple(tuple(chance.choice(("any", "left", "right", "straight")) for _ in range(many))
                           for many in sizes)
            masters = [random_drawing(chance, letter, 99) for _ in range(4)]
            self.assertIs(is_kept(letter, masters), False)
            for call in (meetings, fallen, bent):
                self.plain(call(letter, masters))
        self.assertLess(time.perf_counter() - start, 4)


class WrongTest(Case):
    CALLS = (meetings, fallen, bent, is_kept)

    def test_no_letter(self):
        for call in self.CALLS:
            for value in ODD_VALUES + (FOUR[0], (("left", "left"),), (("left",) * 9,), (("up",) * 4,)):
                self.refused(0, call, value, (SQUARE,))
                self.refused(0, call, value, None)

    def test_no_masters(self):
        far = (((0, 0), (8, 0), (8, 100), (0, 8)),)
        odd = (((0, 0), (8, 0), (8, True), (0, 8)),)
        for call in self.CALLS:
            for value in ODD_VALUES + (SQUARE, (SQUARE,) * 5, (SQUARE, None), (SQUARE, far), (odd, SQUARE), (SQUARE[0],),
                                       (SQUARE + SQUARE,), (mixture(FOUR, (SQUARE,), ((1, 1),)),)):
                self.refused(1, call, FOUR, value)

    def test_arguments_are_left_alone(self):
        for call in self.CALLS:
            args = [as_lists(FOUR), as_lists((SQUARE, SQUARE))]
            kept = copy.deepcopy(args)
            call(*args)
            self.assertEqual(args, kept)

    def test_by_name(self):
        for call in self.CALLS:
            self.assertEqual(call(masters=(SQUARE,), letter=FOUR), call(FOUR, (SQUARE,)))
        self.assertIs(is_kept([list(FOUR[0])], [SQUARE]), True)


if __name__ == "__main__":
    unittest.main()
