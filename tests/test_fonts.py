"""Promises 5, 9, 11, 12, 17 and 39 to 42: fonts."""

import copy
import random
import time
import unittest
from itertools import combinations, permutations

from helpers import ODD_VALUES, Case, as_lists, nearby
from keptform.errors import NoMaster, TakenName, TooMany
from keptform.fonts import Font
from keptform.letters import mixture
from keptform.rooms import is_kept

LEFT = (("left", "left", "left"),)
FOUR = (("left", "left", "any", "left"),)
SQUARE = (((0, 0), (8, 0), (8, 8), (0, 8)),)
FLAT = (((0, 0), (8, 0), (2, 2), (0, 8)),)
FAR = (((0, 0), (8, 0), (-2, -2), (0, 8)),)
# Each two are kept, but not all three.
AROUND = ((((0, 0), (14, 0), (0, 10)),), (((0, 0), (-2, 8), (-8, -6)),), (((0, 0), (-2, -8), (8, -6)),))
NAMES = ("light", "bold", "wide", "a", "condense")
NO_NAMES = ("", "condensed", "Light", "lighT", "LIGHT", "l1", "1", "a b", " a", "a ", "a\n", "a_b", "-", "a.", "zz{", "`a",
            "a" * 9, "a" * 5000, None, True, False, 0, 1, 10 ** 30, (), [], ("light",), ["a"], [["a"]], ((),))


def font_of(letter, **masters):
    font = Font(letter)
    for name, drawing in masters.items():
        font.add(name, drawing)
    return font


class FontCase(Case):
    def raises(self, kind, name, call, *args):
        """The error keeps the very thing that was passed."""
        with self.assertRaises(kind) as caught:
            call(*args)
        self.assertIs(type(caught.exception), kind)
        self.assertIs(caught.exception.name, name)

    def too_many(self, call, *args):
        with self.assertRaises(TooMany) as caught:
            call(*args)
        self.assertIs(type(caught.exception), TooMany)

    def like(self, font, letter, masters):
        """The font answers as a new one with these masters, which are pairs (name, drawing)."""
        new = Font(letter)
        for name, drawing in masters:
            new.add(name, drawing)
        self.answers(font, letter, masters)
        self.answers(new, letter, masters)
        self.assertTrue(font == new)
        self.assertTrue(new == font)
        self.assertFalse(font != new)
        self.assertEqual(font.rooms(), new.rooms())

    def answers(self, font, letter, masters):
        names = tuple(name for name, _ in masters)
        self.assertEqual(font.letter(), letter)
        self.assertEqual(font.names(), names)
        self.assertEqual(len(font), len(masters))
        self.assertIs(type(len(font)), int)
        self.plain(font.letter())
        self.plain(font.names())
        for name, drawing in masters:
            self.assertEqual(font.drawing(name), drawing)
            self.plain(font.drawing(name))
            self.assertIs(name in font, True)
        for name in set(NAMES) - set(names):
            self.assertIs(name in font, False)
            self.raises(NoMaster, name, font.drawing, name)
        self.assertEqual(font.rooms(), slow_rooms(letter, masters))
        self.plain(font.rooms())


def slow_rooms(letter, masters):
    kept = [row for many in (1, 2, 3, 4) for row in combinations(range(len(masters)), many)
            if is_kept(letter, [masters[k][1] for k in row])]
    largest = [row for row in kept if not any(set(row) < set(other) for other in kept)]
    return tuple(tuple(masters[k][0] for k in row) for row in sorted(largest))


class FontTest(FontCase):
    def test_an_empty_font(self):
        font = Font(FOUR)
        self.like(font, FOUR, ())
        self.assertEqual(font.names(), ())
        self.assertEqual(len(font), 0)
        self.assertEqual(font.rooms(), ())
        self.refused(0, font.is_kept, ())

    def test_some_masters(self):
        font = Font(letter=FOUR)
        self.assertIsNone(font.add("light", SQUARE))
        self.like(font, FOUR, (("light", SQUARE),))
        self.assertIsNone(font.add(drawing=FLAT, name="bold"))
        self.like(font, FOUR, (("light", SQUARE), ("bold", FLAT)))
        self.assertIsNone(font.add("far", FAR))
        self.like(font, FOUR, (("light", SQUARE), ("bold", FLAT), ("far", FAR)))

    def test_the_sequence_in_which_they_were_added(self):
        for names in permutations(NAMES[:4]):
            font = Font(FOUR)
            for name in names:
                font.add(name, SQUARE)
            self.assertEqual(font.names(), names)

    def test_words_that_are_names(self):
        for name in ("a", "z", "ab", "abcdefgh", "stuvwxyz", "zzzzzzzz", "ijklmnop", "qr", "none", "true"):
            font = Font(FOUR)
            font.add(name, SQUARE)
            self.assertEqual(font.names(), (name,))
            self.assertIs(name in font, True)

    def test_words_that_are_none(self):
        font = font_of(FOUR, light=SQUARE)
        for name in NO_NAMES:
            self.refused(0, font.add, name, SQUARE)
            self.refused(0, font.add, name, None)
            self.assertIs(name in font, False)
            for call in (font.drawing, font.take):
                self.raises(NoMaster, name, call, name)
            self.raises(NoMaster, name, font.move, name, (0, 0), (0, 0))
        self.like(font, FOUR, (("light", SQUARE),))

    def test_any_value_in_font(self):
        font = font_of(FOUR, light=SQUARE)
        for value in ODD_VALUES + NO_NAMES + ("ligh", "lights", ("light",), ["light"], FOUR, SQUARE, font):
            self.assertIs(value in font, False)
            self.assertIs(value not in font, True)
        self.assertIs("light" in font, True)
        self.assertIs("".join(["li", "ght"]) in font, True)
        self.assertIs("light" not in font, False)

    def test_the_fifth_and_the_sixth_master(self):
        font = Font(FOUR)
        for name in NAMES:
            font.add(name, SQUARE)
        masters = tuple((name, SQUARE) for name in NAMES)
        self.like(font, FOUR, masters)
        self.too_many(font.add, "sixth", FLAT)
        self.like(font, FOUR, masters)
        font.take("bold")
        font.add("sixth", FLAT)
        self.too_many(font.add, "seventh", FLAT)
        self.like(font, FOUR, masters[:1] + masters[2:] + (("sixth", FLAT),))

    def test_errors_of_add_in_their_sequence(self):
        font = font_of(FOUR, light=SQUARE)
        for drawing in (None, FLAT, SQUARE, (), FLAT + FLAT):
            self.refused(0, font.add, "LIGHT", drawing)
            self.raises(TakenName, "light", font.add, "light", drawing)
        self.refused(1, font.add, "bold", None)
        for name in NAMES[1:]:
            font.add(name, FLAT)
        self.refused(0, font.add, "", None)
        self.raises(TakenName, "a", font.add, "a", None)
        self.raises(TakenName, "a", font.add, "a", SQUARE)
        self.refused(1, font.add, "sixth", None)
        self.too_many(font.add, "sixth", SQUARE)
        self.like(font, FOUR, (("light", SQUARE),) + tuple((name, FLAT) for name in NAMES[1:]))

    def test_the_very_name_is_kept_in_errors(self):
        font = font_of(FOUR, light=SQUARE)
        name = "".join(["lig", "ht"])
        self.raises(TakenName, name, font.add, name, SQUARE)
        for name in (["light"], ("light",), None, True, "".join(["bo", "ld"])):
            self.raises(NoMaster, name, font.drawing, name)
            self.raises(NoMaster, name, font.take, name)
            self.raises(NoMaster, name, font.move, name, None, None)

    def test_no_drawings(self):
        font = Font(FOUR)
        far = (((0, 0), (8, 0), (8, 100), (0, 8)),)
        odd = (((0, 0), (8, 0), (8, True), (0, 8)),)
        for value in ODD_VALUES + (SQUARE[0], (SQUARE,), SQUARE + SQUARE, far, odd, (SQUARE[0][:3],),
                                   mixture(FOUR, (SQUARE,), ((1, 1),))):
            self.refused(1, font.add, "bold", value)
        self.like(font, FOUR, ())

    def test_no_letters(self):
        for value in ODD_VALUES + (FOUR[0], (("left", "left"),), (("left",) * 9,), (("up",) * 4,), FOUR * 3):
            self.refused(0, Font, value)

    def test_take(self):
        font = font_of(FOUR, light=SQUARE, bold=FLAT, wide=FAR)
        self.assertIsNone(font.take("bold"))
        self.like(font, FOUR, (("light", SQUARE), ("wide", FAR)))
        self.raises(NoMaster, "bold", font.take, "bold")
        font.add("bold", SQUARE)
        self.like(font, FOUR, (("light", SQUARE), ("wide", FAR), ("bold", SQUARE)))
        for name in ("wide", "light", "bold"):
            font.take(name=name)
        self.like(font, FOUR, ())

    def test_move(self):
        font = font_of(FOUR, light=SQUARE, bold=SQUARE)
        self.assertIsNone(font.move("bold", (0, 2), (2, 2)))
        self.like(font, FOUR, (("light", SQUARE), ("bold", FLAT)))
        self.assertIsNone(font.move(place=[-2, -2], corner=[0, 2], name="bold"))
        self.like(font, FOUR, (("light", SQUARE), ("bold", FAR)))
        font.move("light", (0, 0), (-99, 99))
        self.like(font, FOUR, (("light", (((-99, 99),) + SQUARE[0][1:],)), ("bold", FAR)))

    def test_move_each_corner(self):
        letter = (("any",) * 3, ("any",) * 4, ("any",) * 3)
        drawing = (((0, 0), (9, 0), (0, 9)), ((20, 0), (20, 9), (29, 9), (29, 0)), ((40, 0), (49, 0), (40, 9)))
        for ring in range(3):
            for number in range(len(letter[ring])):
                font = font_of(letter, light=drawing)
                font.move("light", (ring, number), (7, -7))
                expected = as_lists(drawing)
                expected[ring][number] = [7, -7]
                self.assertEqual(as_lists(font.drawing("light")), expected)
                self.plain(font.drawing("light"))

    def test_errors_of_move_in_their_sequence(self):
        font = font_of(FOUR, light=SQUARE)
        for corner in ODD_VALUES + ((0, 4), (1, 0), (0, -1), (-1, 0), (0, True), (False, 0), (0,), (0, 0, 0), "00"):
            self.refused(1, font.move, "light", corner, (0, 0))
            self.refused(1, font.move, "light", corner, None)
            self.raises(NoMaster, "bold", font.move, "bold", corner, None)
        for place in ODD_VALUES + ((0, 100), (-100, 0), (0,), (0, 0, 0), (True, 0), (0, False), ("0", "0"), "00",
                                   ((0, 1), (0, 1)), ((0, 0),)):
            self.refused(2, font.move, "light", (0, 0), place)
            self.refused(1, font.move, "light", (0, 4), place)
            self.raises(NoMaster, "", font.move, "", (0, 0), place)
        self.like(font, FOUR, (("light", SQUARE),))

    def test_after_any_calls_like_a_new_one(self):
        chance = random.Random(80)
        for _ in range(25):
            font, masters = Font(FOUR), []
            for _ in range(12):
                self.change(chance, font, masters)
                chance.choice((len, Font.rooms, Font.names, Font.copy, Font.letter))(font)
                self.like(font, FOUR, tuple((name, drawing) for name, drawing in masters))

    def change(self, chance, font, masters):
        """One call, which may be refused, and what becomes of the masters."""
        name = chance.choice(NAMES + ("sixth", "Light"))
        drawing = chance.choice((SQUARE, FLAT, FAR, None))
        corner, place = chance.choice(((0, 0), (0, 2), (0, 3), (1, 0))), chance.choice(((9, 9), (3, 3), (100, 0)))
        names = [row[0] for row in masters]
        call = chance.choice(("add", "add", "take", "move"))
        if call == "add":
            if name != "Light" and name not in names and drawing is not None and len(masters) < 5:
                masters.append((name, drawing))
                return font.add(name, drawing)
            return self.assertRaises(Exception, font.add, name, drawing)
        if name not in names:
            return self.raises(NoMaster, name, font.drawing, name)
        at = names.index(name)
        if call == "take":
            del masters[at]
            return font.take(name)
        if corner[0] == 1 or place[0] == 100:
            return self.refused(1 if corner[0] == 1 else 2, font.move, name, corner, place)
        row = list(masters[at][1][0])
        row[corner[1]] = place
        masters[at] = (name, (tuple(row),))
        return font.move(name, corner, place)

    def test_lists_that_are_changed_behind(self):
        letter, drawing = as_lists(FOUR), as_lists(SQUARE)
        font = Font(letter)
        font.add("light", drawing)
        letter[0][0] = "right"
        letter.append(["any"] * 3)
        drawing[0][0][0] = 55
        drawing[0][1] = [1, 1]
        drawing.append(None)
        self.like(font, FOUR, (("light", SQUARE),))
        place, corner = [2, 2], [0, 2]
        font.move("light", corner, place)
        place[0] = 77
        corner[1] = 0
        self.like(font, FOUR, (("light", FLAT),))

    def test_arguments_are_left_alone(self):
        args = [as_lists(FOUR), as_lists(SQUARE), [0, 2], [2, 2], ["light"]]
        kept = copy.deepcopy(args)
        font = Font(args[0])
        font.add("light", args[1])
        font.move("light", args[2], args[3])
        font.is_kept(args[4])
        font.take("light")
        self.assertEqual(args, kept)


class KeptTest(FontCase):
    def test_in_any_sequence(self):
        font = font_of(FOUR, light=SQUARE, bold=FLAT, far=FAR)
        for names, kept in ((("light",), True), (("light", "bold"), True), (("light", "far"), False), (("far",), False),
                            (("light", "bold", "far"), False)):
            for row in permutations(names):
                self.assertIs(font.is_kept(row), kept)
                self.assertIs(font.is_kept(list(row)), kept)
                self.assertIs(font.is_kept(names=row), kept)

    def test_three_of_which_each_two_are_kept(self):
        font = font_of(LEFT, a=AROUND[0], b=AROUND[1], c=AROUND[2])
        for names in permutations("abc", 2):
            self.assertIs(font.is_kept(names), True)
        for names in permutations("abc", 3):
            self.assertIs(font.is_kept(names), False)

    def test_four_and_smaller_rooms(self):
        font = font_of(FOUR, a=SQUARE, b=FLAT, c=(((0, 0), (9, 1), (9, 7), (1, 9)),), d=SQUARE, e=FLAT)
        for many in (1, 2, 3, 4):
            for names in permutations("abcde", many):
                self.assertIs(font.is_kept(names), True)

    def test_no_names(self):
        font = font_of(FOUR, a=SQUARE, b=SQUARE, c=SQUARE, d=SQUARE, e=SQUARE)
        for value in ODD_VALUES + ((), [], ("a", "a"), ("a", "b", "a"), ("a", "b", "c", "d", "e"), ("f",), ("a", "f"),
                                   ("A",), ("a", ""), ("a", None), ("a", True), (["a"],), ("a", ["b"]), ("a", ("b",)),
                                   "a", "ab", "abcd", None, ("ab",), ["a"] * 5, ("a",) * 4):
            self.refused(0, font.is_kept, value)
        self.assertIs(font.is_kept(["a"]), True)
        font.take("a")
        self.refused(0, font.is_kept, ["a"])


class RoomsTest(FontCase):
    def test_sets_within_greater_ones(self):
        font = font_of(FOUR, light=SQUARE, far=FAR, bold=FLAT)
        self.assertEqual(font.rooms(), (("light", "bold"),))
        font = font_of(FOUR, light=SQUARE, bold=FLAT, heavy=SQUARE)
        self.assertEqual(font.rooms(), (("light", "bold", "heavy"),))

    def test_five_that_are_kept(self):
        font = font_of(FOUR, e=SQUARE, d=SQUARE, c=FLAT, b=SQUARE, a=FLAT)
        self.assertEqual(font.rooms(), tuple(combinations("edcba", 4)))

    def test_each_two(self):
        font = font_of(LEFT, c=AROUND[0], b=AROUND[1], a=AROUND[2])
        self.assertEqual(font.rooms(), (("c", "b"), ("c", "a"), ("b", "a")))
        font.add("d", AROUND[1])
        self.assertEqual(font.rooms(), (("c", "b", "d"), ("c", "a"), ("b", "a", "d")))

    def test_alone_and_none(self):
        turned = (((8, 8), (0, 8), (0, 0), (8, 0)),)
        font = font_of(FOUR, light=SQUARE, back=turned)
        self.assertEqual(font.rooms(), (("light",), ("back",)))
        font = font_of(FOUR, far=FAR)
        self.assertEqual(font.rooms(), ())

    def test_sequence_is_that_of_the_numbers(self):
        # Sets of one, two and three: neither their sizes nor the names come into it.
        turned = (((8, 8), (0, 8), (0, 0), (8, 0)),)
        font = font_of(FOUR, z=SQUARE, y=turned, x=SQUARE, w=turned, v=SQUARE)
        self.assertEqual(font.rooms(), (("z", "x", "v"), ("y", "w")))
        font = font_of(FOUR, z=turned, y=SQUARE, x=SQUARE)
        self.assertEqual(font.rooms(), (("z",), ("y", "x")))

    def test_follow_each_change(self):
        font = font_of(FOUR, light=SQUARE, bold=FLAT)
        self.assertEqual(font.rooms(), (("light", "bold"),))
        font.move("bold", (0, 2), (-2, -2))
        self.assertEqual(font.rooms(), (("light",),))
        font.move("bold", (0, 2), (8, 8))
        self.assertEqual(font.rooms(), (("light", "bold"),))
        font.take("light")
        self.assertEqual(font.rooms(), (("bold",),))

    def test_like_slow_ones(self):
        chance = random.Random(81)
        seen = {}
        for _ in range(50):
            base = chance.choice((AROUND[0], AROUND[1]))
            masters = [(name, chance.choice((nearby(chance, base, chance.choice((2, 5, 8))), chance.choice(AROUND))))
                       for name in NAMES[:chance.randint(1, 5)]]
            font = Font(LEFT)
            for name, drawing in masters:
                font.add(name, drawing)
            told = font.rooms()
            self.assertEqual(told, slow_rooms(LEFT, masters))
            self.plain(told)
            for row in told:
                seen[len(row)] = seen.get(len(row), 0) + 1
        self.assertEqual(set(seen), {1, 2, 3, 4})

    def test_five_masters_in_reasonable_time(self):
        chance = random.Random(82)
        big = ((0, -99), (94, -31), (58, 80), (-58, 80), (-94, -31))
        small = ((0, -30), (28, -9), (17, 24), (-17, 24), (-28, -9))
        font = Font((("left",) * 5, ("left",) * 5))
        for name in NAMES:
            font.add(name, nearby(chance, (big, small), 6))
        start = time.perf_counter()
        self.assertEqual(font.rooms(), tuple(combinations(NAMES, 4)))
        self.assertIs(font.is_kept(NAMES[1:]), True)
        self.assertLess(time.perf_counter() - start, 3)


class CopyTest(FontCase):
    def test_changes_independently(self):
        font = font_of(FOUR, light=SQUARE, bold=FLAT)
        twin = font.copy()
        self.assertIs(type(twin), Font)
        self.like(twin, FOUR, (("light", SQUARE), ("bold", FLAT)))
        twin.move("light", (0, 2), (2, 2))
        twin.add("wide", FAR)
        self.like(font, FOUR, (("light", SQUARE), ("bold", FLAT)))
        self.like(twin, FOUR, (("light", FLAT), ("bold", FLAT), ("wide", FAR)))
        font.take("light")
        font.move("bold", (0, 0), (1, 1))
        self.like(twin, FOUR, (("light", FLAT), ("bold", FLAT), ("wide", FAR)))
        self.assertEqual(font.names(), ("bold",))
        self.like(font.copy().copy(), FOUR, (("bold", (((1, 1),) + FLAT[0][1:],)),))

    def test_a_copy_of_a_full_and_of_an_empty_one(self):
        font = Font(FOUR)
        self.like(font.copy(), FOUR, ())
        for name in NAMES:
            font.add(name, SQUARE)
        twin = font.copy()
        self.like(twin, FOUR, tuple((name, SQUARE) for name in NAMES))
        self.too_many(twin.add, "sixth", SQUARE)

    def test_equal(self):
        def made():
            return font_of(FOUR, light=SQUARE, bold=FLAT)
        self.unlike(made(), Font(FOUR))
        self.unlike(made(), font_of(FOUR, light=SQUARE))
        self.unlike(made(), font_of(FOUR, bold=FLAT, light=SQUARE))
        self.unlike(made(), font_of(FOUR, light=FLAT, bold=SQUARE))
        self.unlike(made(), font_of(FOUR, light=SQUARE, bolder=FLAT))
        self.unlike(made(), font_of(FOUR, light=SQUARE, bold=FLAT, wide=FLAT))
        self.unlike(made(), font_of((("left",) * 4,), light=SQUARE, bold=FLAT))
        self.unlike(Font(FOUR), Font(LEFT))
        same = Font(as_lists(FOUR))
        same.add("bold", as_lists(SQUARE))
        same.add("light", as_lists(SQUARE))
        same.take("bold")
        same.add("bold", as_lists(SQUARE))
        self.unlike(made(), same)
        same.move("bold", [0, 2], [2, 2])
        self.assertTrue(made() == same)
        self.assertFalse(made() != same)
        font = made()
        self.assertTrue(font == font)
        self.assertIs(font == font.copy(), True)

    def unlike(self, one, other):
        self.assertIs(one == other, False)
        self.assertIs(other == one, False)
        self.assertIs(one != other, True)

    def test_beside_another_thing(self):
        font = font_of(FOUR, light=SQUARE)
        for other in ODD_VALUES + (FOUR, ("light",), (FOUR, ("light",), (SQUARE,)), "light", Font, object()):
            self.unlike(font, other)
        self.assertIs(Font(FOUR) == (), False)


if __name__ == "__main__":
    unittest.main()
