"""Promises 7, 8, 11, 12, 17 and 35 to 38: chains of drawings, and levels."""

import copy
import random
import time
import unittest
from itertools import combinations, product

from helpers import ODD_VALUES, Case, as_lists, nearby, random_drawing, slow_fault, slow_mixture, spots_to_try
from keptform.chains import chain, levels, levels_hold
from keptform.errors import BadLevels
from keptform.letters import mixture
from keptform.rooms import is_kept

LEFT = (("left", "left", "left"),)
THREE = (((0, 0), (8, 0), (0, 8)),)
FLIPPED = (((0, 0), (0, 8), (8, 0)),)
# The second corner must be straight: two cells go together if and only if they have the direction of the straight line
# or the share of the corner on it in common.
CELL = (("any", "straight", "any", "any"),)
# Only neighbours go together.
STAIRS = ((0, 1), (0, 2), (1, 2), (1, 3), (2, 3), (2, 4), (3, 4), (3, 5))
ALONE = ((0, 1), (1, 2), (2, 3), (3, 4), (4, 5), (5, 6), (6, 7), (7, 8))


def cell(direction, share):
    return (((0, 0), (10 * share, direction * share), (90, 9 * direction), (45, 99)),)


def cells(*rows):
    return tuple(cell(*row) for row in rows)


def slow_chains(many, together):
    """All rows from the first number to the last one, of which every two neighbours go together."""
    found = []
    for size in range(many - 1):
        for middle in combinations(range(1, many - 1), size):
            row = (0,) + middle + (many - 1,)
            if all(pair in together for pair in zip(row, row[1:])):
                found.append(row)
    return found


def slow_pairs(letter, drawings):
    return {(i, j) for i, j in combinations(range(len(drawings)), 2) if is_kept(letter, (drawings[i], drawings[j]))}


class ChainCase(Case):
    def told(self, letter, drawings, answer):
        got = chain(letter, drawings)
        self.assertEqual(got, answer)
        self.plain(got)
        self.assertEqual(chain(as_lists(letter), as_lists(drawings)), answer)
        self.levels_told(letter, drawings, 9 if answer is None else len(answer) - 1)

    def levels_told(self, letter, drawings, last):
        got = levels(letter, drawings)
        self.plain(got)
        self.assertEqual(levels(as_lists(letter), as_lists(drawings)), got)
        self.assertEqual(len(got), len(drawings))
        self.assertEqual((got[0], got[-1]), (0, last))
        self.assertTrue(all(0 <= level <= 9 for level in got))
        for i, j in slow_pairs(letter, drawings):
            self.assertLessEqual(got[j], got[i] + 1)
        self.assertIs(levels_hold(letter, drawings, got), True)
        self.assertIs(levels_hold(letter, drawings, list(got)), True)

    def no_levels(self, at, letter, drawings, value):
        with self.assertRaises(BadLevels) as caught:
            levels_hold(letter, drawings, value)
        self.assertIs(type(caught.exception), BadLevels)
        self.assertIs(type(caught.exception.at), int)
        self.assertEqual(caught.exception.at, at)


class ChainTest(ChainCase):
    def test_cells_go_together_as_they_must(self):
        rows = [(direction, share) for direction in range(3) for share in (1, 2, 3)]
        for one, other in product(rows, rows):
            kept = one[0] == other[0] or one[1] == other[1]
            self.assertIs(is_kept(CELL, cells(one, other)), kept)
        one, other = cells((0, 1), (1, 2))
        faults = [slow_fault(CELL, slow_mixture((one, other), (1 - spot, spot))) for spot in spots_to_try(one, other)]
        self.assertIn(None, faults)
        self.assertIn(("bend", (0, 1)), faults)

    def test_two_drawings(self):
        self.told(LEFT, (THREE, THREE), (0, 1))
        self.told(CELL, cells((0, 1), (0, 2)), (0, 1))
        self.told(CELL, cells((0, 1), (1, 2)), None)
        self.told(LEFT, (THREE, FLIPPED), None)
        self.told(LEFT, (FLIPPED, THREE), None)
        self.told(LEFT, (FLIPPED, FLIPPED), None)

    def test_all_drawings(self):
        for many in range(2, 9):
            self.told(CELL, cells(*STAIRS[:many]), tuple(range(many)))

    def test_first_and_last_alone(self):
        self.told(CELL, cells(*ALONE[:7], (9, 1)), (0, 7))
        self.told(CELL, cells(*STAIRS[:7], (0, 8)), (0, 7))
        self.told(LEFT, (THREE,) * 8, (0, 7))

    def test_none(self):
        self.told(CELL, cells(*ALONE), None)
        # Everything goes together but for what leads to the last one, or away from the first one.
        self.told(CELL, cells((0, 1), (0, 2), (0, 3), (0, 4), (0, 5), (0, 6), (0, 7), (1, 8)), None)
        self.told(CELL, cells((1, 8), (0, 2), (0, 3), (0, 4), (0, 5), (0, 6), (0, 7), (0, 1)), None)

    def test_rows_are_ascending(self):
        # There is a row by numbers 0, 2, 1, 3 only.
        self.told(CELL, cells((0, 1), (1, 2), (0, 2), (1, 3)), None)
        self.told(CELL, cells((0, 1), (0, 2), (1, 2), (1, 3)), (0, 1, 2, 3))

    def test_the_first_of_the_shortest(self):
        self.told(CELL, cells((0, 1), (0, 2), (1, 1), (1, 2)), (0, 1, 3))
        self.told(CELL, cells((0, 1), (1, 1), (0, 2), (1, 2)), (0, 1, 3))
        # A shorter one goes by greater numbers, and the first numbers alone lead nowhere.
        self.told(CELL, cells((0, 1), (0, 2), (1, 2), (1, 3), (2, 1), (2, 3)), (0, 4, 5))
        self.told(CELL, cells((0, 1), (0, 2), (0, 3), (1, 3), (1, 2), (1, 4)), (0, 1, 4, 5))
        self.told(CELL, cells((0, 1), (0, 3), (0, 2), (1, 2), (1, 3), (1, 4)), (0, 1, 4, 5))

    def test_drawings_that_do_not_hold(self):
        # Number 1 goes together with none, not even with itself.
        self.told(LEFT, (THREE, FLIPPED, THREE), (0, 2))
        self.told(LEFT, (THREE, FLIPPED, FLIPPED), None)
        self.told(LEFT, (FLIPPED, THREE, THREE), None)

    def test_turned_triangles(self):
        # The opposite one does not go together with the first, all others do.
        turned = [(((6, 0), (-3, 5), (-3, -5)),), (((0, 6), (-5, -3), (5, -3)),), (((-6, 0), (3, -5), (3, 5)),)]
        self.told(LEFT, turned, (0, 1, 2))
        self.told(LEFT, [turned[0], turned[2]], None)

    def test_like_slow_ones(self):
        chance = random.Random(70)
        seen = {}
        for _ in range(120):
            many = chance.randint(2, 8)
            drawings = cells(*[(chance.randint(0, 3), chance.randint(1, 4)) for _ in range(many)])
            together = slow_pairs(CELL, drawings)
            found = slow_chains(many, together)
            answer = min(found, key=lambda row: (len(row), row)) if found else None
            self.told(CELL, drawings, answer)
            size = len(answer or ())
            seen[size] = seen.get(size, 0) + 1
        self.assertGreater(min(seen[0], seen[2], seen[3], seen[4]), 4)

    def test_like_slow_ones_of_other_kinds(self):
        chance = random.Random(71)
        seen = {}
        for _ in range(60):
            many = chance.randint(2, 6)
            drawings = [random_drawing(chance, LEFT, 5) for _ in range(many)]
            drawings = [drawing if slow_fault(LEFT, drawing) is None else (drawing[0][::-1],) for drawing in drawings]
            together = {(i, j) for i, j in combinations(range(many), 2) if self.go_together(drawings[i], drawings[j])}
            found = slow_chains(many, together)
            answer = min(found, key=lambda row: (len(row), row)) if found else None
            self.told(LEFT, drawings, answer)
            seen[len(answer or ())] = 1
        self.assertLessEqual({0, 2, 3}, set(seen))

    def go_together(self, one, other):
        return all(slow_fault(LEFT, slow_mixture((one, other), (1 - spot, spot))) is None
                   for spot in spots_to_try(one, other))

    def test_in_reasonable_time(self):
        chance = random.Random(72)
        big = ((0, -99), (94, -31), (58, 80), (-58, 80), (-94, -31))
        small = ((0, -30), (28, -9), (17, 24), (-17, 24), (-28, -9))
        letter = (("left",) * 5, ("left",) * 5)
        drawings = [nearby(chance, (big, small), 6) for _ in range(8)]
        start = time.perf_counter()
        self.assertEqual(chain(letter, drawings), (0, 7))
        self.assertEqual(levels(letter, drawings)[-1], 1)
        self.assertIs(levels_hold(letter, drawings, (0,) * 8), True)
        drawings = [random_drawing(chance, letter, 99) for _ in range(8)]
        self.assertIsNone(chain(letter, drawings))
        self.assertEqual(levels(letter, drawings), (0,) + (9,) * 7)
        self.assertLess(time.perf_counter() - start, 4)


class LevelsTest(ChainCase):
    def test_nothing_greater_holds(self):
        chance = random.Random(73)
        for _ in range(12):
            many = chance.randint(2, 4)
            drawings = cells(*[(chance.randint(0, 2), chance.randint(1, 3)) for _ in range(many)])
            together = slow_pairs(CELL, drawings)
            greatest = 0
            for middle in product(range(10), repeat=many - 1):
                value = (0,) + middle
                if all(value[j] <= value[i] + 1 for i, j in together):
                    greatest = max(greatest, value[-1])
            self.levels_told(CELL, drawings, greatest)

    def test_each_edge_on_the_way(self):
        self.levels_told(CELL, cells(*STAIRS), 7)
        self.assertEqual(levels(CELL, cells(*STAIRS)), tuple(range(8)))
        self.levels_told(CELL, cells(*ALONE), 9)

    def test_a_level_behind_ones_that_nothing_leads_to(self):
        # Number 1 may have 9, and what only it leads to is still no more than 9.
        self.levels_told(CELL, cells((0, 1), (1, 2), (1, 3)), 9)
        self.levels_told(CELL, cells((0, 1), (1, 2), (1, 3), (2, 3)), 9)

    def test_levels_that_hold(self):
        stairs = cells(*STAIRS[:4])
        for value in ((0, 1, 2, 3), (0, 0, 0, 0), (0, 1, 1, 2), [0, 0, 1, 0], (0, 1, 0, 1)):
            self.assertIs(levels_hold(CELL, stairs, value), True)
        alone = cells(*ALONE[:4])
        for value in ((0, 9, 9, 9), (0, 9, 0, 9), (0, 0, 9, 1)):
            self.assertIs(levels_hold(CELL, alone, value), True)

    def test_a_level_that_is_none(self):
        for drawings in (cells(*ALONE[:4]), cells(*STAIRS[:4])):
            for at in range(4):
                for odd in (True, False, None, "0", "", -1, 10, 10 ** 30, -10 ** 30, (), [0], (0,), [[[]]]):
                    value = [0, 0, 0, 0]
                    value[at] = odd
                    self.no_levels(at, CELL, drawings, value)
                    self.no_levels(at, CELL, drawings, tuple(value))
                    # The first of several, and ahead of too few and too many.
                    self.no_levels(at, CELL, drawings, value[:at + 1] + [11] * (3 - at))
                    self.no_levels(at, CELL, drawings, value[:at + 1])
                    self.no_levels(at, CELL, drawings, value + [0])

    def test_the_first_is_0(self):
        for drawings in (cells(*ALONE[:3]), cells(*STAIRS[:3])):
            for level in range(1, 10):
                self.no_levels(0, CELL, drawings, (level, level, level))
                self.no_levels(0, CELL, drawings, (level,))
                self.no_levels(0, CELL, drawings, (level, "x", level, 0))

    def test_more_than_one_above_an_earlier_one(self):
        stairs = cells(*STAIRS[:4])
        self.no_levels(1, CELL, stairs, (0, 2, 2, 2))
        self.no_levels(2, CELL, stairs, (0, 1, 3, 9))
        self.no_levels(2, CELL, stairs, (0, 0, 2, 3))
        self.no_levels(3, CELL, stairs, (0, 1, 2, 4))
        self.no_levels(3, CELL, stairs, (0, 1, 0, 9))
        # With all that go together: each earlier one counts, not only the neighbour.
        row = cells((0, 1), (0, 2), (0, 3), (0, 4))
        self.no_levels(2, CELL, row, (0, 1, 2, 1))
        self.no_levels(3, CELL, row, (0, 1, 1, 2))
        self.assertIs(levels_hold(CELL, row, (0, 1, 1, 1)), True)
        # Only the later one's level is bounded.
        self.assertIs(levels_hold(CELL, cells((0, 1), (1, 2), (1, 3)), (0, 9, 0)), True)
        self.no_levels(2, CELL, cells((0, 1), (1, 2), (1, 3)), (0, 0, 9))

    def test_too_few(self):
        stairs = cells(*STAIRS)
        for many in range(8):
            self.no_levels(many, CELL, stairs, tuple(range(many)))
            self.no_levels(many, CELL, stairs, [0] * many)

    def test_too_many(self):
        stairs = cells(*STAIRS)
        for more in (0, 8, True, None, "x", ((),), 99):
            self.no_levels(8, CELL, stairs, (0,) * 8 + (more,))
            self.no_levels(8, CELL, stairs, [0] * 8 + [more] * 9)
        self.no_levels(2, CELL, stairs[:2], (0,) * 5000)
        self.no_levels(1, CELL, stairs[:2], (0, 2) + (0,) * 9)

    def test_no_sequence(self):
        for value in (None, True, False, 0, 5, "", "01", "00", 10 ** 30):
            self.no_levels(0, CELL, cells(*STAIRS[:2]), value)
        self.no_levels(0, CELL, cells(*STAIRS[:2]), ())
        self.no_levels(0, CELL, cells(*STAIRS[:2]), [])

    def test_changed_answers(self):
        drawings = cells(*STAIRS)
        told = levels(CELL, drawings)
        for at in range(8):
            for level in range(10):
                value = told[:at] + (level,) + told[at + 1:]
                if level < told[at]:
                    wrong = [j for j in range(at + 1, 8) if j == at + 1 and told[j] > level + 1]
                    if wrong:
                        self.no_levels(wrong[0], CELL, drawings, value)
                elif level > told[at]:
                    self.no_levels(at, CELL, drawings, value)
                else:
                    self.assertIs(levels_hold(CELL, drawings, value), True)

    def test_like_slow_ones(self):
        chance = random.Random(74)
        held = 0
        for _ in range(150):
            many = chance.randint(2, 6)
            drawings = cells(*[(chance.randint(0, 2), chance.randint(1, 3)) for _ in range(many)])
            together = slow_pairs(CELL, drawings)
            value = [0] + [chance.choice((0, 1, 1, 2, 9)) for _ in range(many - 1)]
            wrong = [j for j in range(many) if any((i, j) in together and value[j] > value[i] + 1 for i in range(j))]
            if wrong:
                self.no_levels(wrong[0], CELL, drawings, value)
                continue
            held += 1
            self.assertIs(levels_hold(CELL, drawings, value), True)
            for row in slow_chains(many, together):
                self.assertGreater(len(row), value[-1])
        self.assertGreater(held, 30)


class WrongTest(ChainCase):
    CALLS = ((chain, ()), (levels, ()), (levels_hold, ((0, 0),)), (levels_hold, ("no levels",)))

    def test_no_letter(self):
        for call, more in self.CALLS:
            for value in ODD_VALUES + (LEFT[0], (("left", "left"),), (("left",) * 9,), (("up",) * 4,)):
                self.refused(0, call, value, (THREE, THREE), *more)
                self.refused(0, call, value, None, *more)

    def test_no_drawings(self):
        far = (((0, 0), (8, 0), (0, 100)),)
        odd = (((0, 0), (8, 0), (0, True)),)
        mixed = mixture(LEFT, (THREE,), ((1, 1),))
        for call, more in self.CALLS:
            for value in ODD_VALUES + (THREE, (THREE,), (THREE,) * 9, (THREE, None), (THREE, far), (odd, THREE),
                                       (mixed, mixed), [THREE] * 8 + [None], (THREE[0], THREE[0])):
                self.refused(1, call, LEFT, value, *more)

    def test_arguments_are_left_alone(self):
        for call, more in self.CALLS[:3]:
            args = [as_lists(LEFT), as_lists((THREE, THREE))] + as_lists(more)
            kept = copy.deepcopy(args)
            call(*args)
            self.assertEqual(args, kept)

    def test_by_name(self):
        self.assertEqual(chain(drawings=(THREE, THREE), letter=LEFT), (0, 1))
        self.assertEqual(levels(drawings=(THREE, THREE), letter=LEFT), (0, 1))
        self.assertIs(levels_hold(value=(0, 1), drawings=(THREE, THREE), letter=LEFT), True)


if __name__ == "__main__":
    unittest.main()
