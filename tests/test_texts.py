"""Promises 10, 11, 12, 17, 43 and 44: texts of letters and masters."""

import copy
import random
import re
import time
import unittest

from helpers import ODD_VALUES, Case, as_lists, random_drawing
from keptform.errors import BadText
from keptform.letters import mixture
from keptform.texts import parse, printed

FOUR = (("left", "left", "any", "left"),)
SQUARE = (((0, 0), (8, 0), (8, 8), (0, 8)),)
TWO = (("any", "straight", "right"), ("left", "any", "any", "any"))
MASTER = (((0, -1), (99, -99), (-10, 10)), ((1, 2), (3, 4), (5, 6), (7, 8)))
OTHER = (((0, 0), (9, 0), (0, 9)), ((11, 12), (13, 14), (15, 16), (-17, 18)))
TEXT = """ring any straight right
ring left any any any
master
places 0 -1 99 -99 -10 10
places 1 2 3 4 5 6 7 8
master
places 0 0 9 0 0 9
places 11 12 13 14 15 16 -17 18
"""
LINES = TEXT.split("\n")[:-1]
MANNERS = ("any", "left", "right", "straight")


def is_beginning(lines):
    """Whether these lines are the beginning of the lines of a text, told by patterns."""
    rings = []
    while len(rings) < len(lines) and re.fullmatch("ring( (any|left|right|straight)){3,8}", lines[len(rings)]):
        rings.append(lines[len(rings)].count(" "))
    if len(rings) > 3 or sum(rings) > 10 or not rings and lines:
        return False
    rest = lines[len(rings):]
    pattern = "( (0|-?[1-9][0-9]?))"
    wanted = (["master"] + ["places" + pattern + "{%d}" % (2 * many) for many in rings]) * 4
    return len(rest) <= len(wanted) and all(re.fullmatch(*pair) for pair in zip(wanted, rest))


def slow_at(text):
    """The number of the first wrong line, or None."""
    lines = re.findall("[^\n]*\n|[^\n]+$", text)
    lines = [line[:-1] if line.endswith("\n") else line for line in lines]
    for at in range(len(lines)):
        if not is_beginning(lines[:at + 1]):
            return at
    rings = sum(line.startswith("ring") for line in lines)
    if rings == len(lines) or (len(lines) - rings) % (rings + 1):
        return len(lines)
    return None


def random_letter(chance):
    sizes = chance.choice(((3,), (8,), (5, 5), (3, 3, 4), (3, 7), (4,), (3, 3, 3), (4, 6)))
    return tuple(tuple(chance.choice(MANNERS) for _ in range(many)) for many in sizes)


class TextCase(Case):
    def bad(self, at, text):
        with self.assertRaises(BadText) as caught:
            parse(text)
        self.assertIs(type(caught.exception), BadText)
        self.assertIs(type(caught.exception.at), int)
        self.assertEqual(caught.exception.at, at)

    def like_slow(self, text):
        at = slow_at(text)
        if at is not None:
            self.bad(at, text)
        else:
            letter, masters = parse(text)
            self.assertEqual(printed(letter, masters), text if text.endswith("\n") else text + "\n")
        return at

    def replaced(self, at, line):
        return "\n".join(LINES[:at] + [line] + LINES[at + 1:]) + "\n"


class PrintedTest(TextCase):
    def test_a_letter(self):
        self.assertEqual(printed(FOUR, (SQUARE,)), "ring left left any left\nmaster\nplaces 0 0 8 0 8 8 0 8\n")
        self.assertEqual(printed(TWO, (MASTER, OTHER)), TEXT)
        self.assertIs(type(printed(TWO, (MASTER, OTHER))), str)

    def test_lists(self):
        self.assertEqual(printed(as_lists(TWO), as_lists((MASTER, OTHER))), TEXT)
        self.assertEqual(printed(masters=[MASTER, OTHER], letter=TWO), TEXT)

    def test_arguments_are_left_alone(self):
        args = [as_lists(TWO), as_lists((MASTER, OTHER))]
        kept = copy.deepcopy(args)
        printed(*args)
        self.assertEqual(args, kept)

    def test_no_letter(self):
        for value in ODD_VALUES + (FOUR[0], (("left", "left"),), (("left",) * 9,), (("up",) * 4,)):
            self.refused(0, printed, value, (SQUARE,))
            self.refused(0, printed, value, None)

    def test_no_masters(self):
        far = (((0, 0), (8, 0), (8, 100), (0, 8)),)
        odd = (((0, 0), (8, 0), (8, True), (0, 8)),)
        for value in ODD_VALUES + (SQUARE, (SQUARE,) * 5, (SQUARE, None), (SQUARE, far), (odd, SQUARE), (SQUARE[0],),
                                   (SQUARE + SQUARE,), (mixture(FOUR, (SQUARE,), ((1, 1),)),)):
            self.refused(1, printed, FOUR, value)


class ParseTest(TextCase):
    def test_back_and_forth(self):
        chance = random.Random(90)
        for _ in range(200):
            letter = random_letter(chance)
            masters = tuple(random_drawing(chance, letter, chance.choice((1, 9, 11, 99)))
                            for _ in range(chance.randint(1, 4)))
            text = printed(letter, masters)
            self.assertIsNone(slow_at(text))
            self.assertEqual(parse(text), (letter, masters))
            self.assertEqual(parse(text=text[:-1]), (letter, masters))
            self.plain(parse(text))

    def test_each_number(self):
        for x in range(-99, 100):
            master = (((x, -x), (1, 1), (2, 3)),)
            letter = (("any",) * 3,)
            text = "ring any any any\nmaster\nplaces " + str(x) + " " + str(-x) + " 1 1 2 3\n"
            self.assertEqual(printed(letter, (master,)), text)
            self.assertEqual(parse(text), (letter, (master,)))

    def test_with_and_without_a_line_feed_at_the_end(self):
        self.assertEqual(parse(TEXT), (TWO, (MASTER, OTHER)))
        self.assertEqual(parse(TEXT[:-1]), (TWO, (MASTER, OTHER)))
        self.bad(8, TEXT + "\n")
        self.bad(8, TEXT + "\n\n")
        self.bad(8, TEXT + " ")
        self.bad(7, TEXT[:-1] + " ")
        self.bad(7, TEXT[:-1] + " \n")

    def test_what_is_no_string(self):
        for value in (None, True, False, 0, 7, 10 ** 30, (), [], (TEXT,), [TEXT], LINES, ((("any",),),)):
            self.bad(0, value)

    def test_the_empty_text(self):
        for text in ("", "\n", "\n\n", " ", " \n", "\n" + TEXT, "\n" * 5000, " " * 5000):
            self.bad(0, text)

    def test_too_few_lines(self):
        for many in range(9):
            text = "\n".join(LINES[:many])
            if many in (5, 8):
                self.assertEqual(parse(text), (TWO, (MASTER, OTHER)[:many // 4]))
                self.assertEqual(parse(text + "\n"), (TWO, (MASTER, OTHER)[:many // 4]))
            elif many:
                self.bad(many, text)
                self.bad(many, text + "\n")

    def test_an_empty_line(self):
        for at in range(9):
            self.bad(at, "\n".join(LINES[:at] + [""] + LINES[at:]) + "\n")
        for at in range(8):
            self.bad(at, self.replaced(at, ""))
            self.bad(at, self.replaced(at, " "))

    def test_a_line_that_is_missing_or_twice(self):
        for at in range(8):
            without = "\n".join(LINES[:at] + LINES[at + 1:]) + "\n"
            self.bad({0: 2, 1: 3}.get(at, at), without)
            twice = "\n".join(LINES[:at + 1] + LINES[at:]) + "\n"
            self.bad({0: 5, 1: 2}.get(at, at + 1), twice)

    def test_blanks(self):
        for at, line in enumerate(LINES):
            for wrong in (" " + line, line + " ", line + "  ", "\t" + line, line + "\t", line + "\r", "  " + line):
                self.bad(at, self.replaced(at, wrong))
            for k, sign in enumerate(line):
                if sign == " ":
                    for between in ("  ", "", "\t", " \t", "   ", "_", ","):
                        self.bad(at, self.replaced(at, line[:k] + between + line[k + 1:]))

    def test_each_sign_of_the_words(self):
        for at, line in enumerate(LINES):
            for k in range(len(line)):
                for wrong in (line[:k] + line[k + 1:], line[:k] + "x" + line[k:], line[:k] + "+" + line[k:],
                              line[:k] + line[k].upper() + line[k + 1:], line[:k] + "0" + line[k:]):
                    self.like_slow(self.replaced(at, wrong))

    def test_numbers_of_other_forms(self):
        letter, text = (("any",) * 3,), "ring any any any\nmaster\nplaces 0 0 {} 1 2 3\n"
        self.assertEqual(parse(text.format("7")), (letter, ((((0, 0), (7, 1), (2, 3)),),)))
        for word in ("00", "07", "-0", "-07", "007", "+7", "--7", "- 7", "-", "100", "-100", "101", "999", "1000", "7.0",
                     "7.", "0x7", "1e1", "1_0", "\u0667", "\u00b2", "\uff17", "seven", "7-", "7,", "True", "9" * 4000,
                     "-" + "9" * 4000, "0" * 4999, "any", "places", ""):
            self.bad(2, text.format(word))
        for word in ("0", "-1", "9", "10", "99", "-9", "-10", "-99"):
            self.assertEqual(parse(text.format(word)), (letter, ((((0, 0), (int(word), 1), (2, 3)),),)))

    def test_too_few_and_too_many_words(self):
        for at in (3, 4, 6, 7):
            self.bad(at, self.replaced(at, LINES[at] + " 1"))
            self.bad(at, self.replaced(at, LINES[at] + " 1 1"))
            self.bad(at, self.replaced(at, LINES[at].rpartition(" ")[0]))
            self.bad(at, self.replaced(at, LINES[at].rpartition(" ")[0].rpartition(" ")[0]))
            self.bad(at, self.replaced(at, "places"))
        # The places of the rings in another sequence.
        self.bad(3, "\n".join(LINES[:3] + [LINES[4], LINES[3]]))
        for at in (2, 5):
            for line in ("master 1", "masters", "Master", "master master", "mast", "places", "ring any any", LINES[1], LINES[3]):
                self.bad(at, self.replaced(at, line))
        for at in (0, 1):
            for line in ("ring", "ring any", "ring any any", "ring any any up", "ring any any any any any any any any any",
                         "ring any any any ring", "any any any", "ring 1 2 3", "rings any any any", "master"):
                self.bad(2 * at if line == "master" else at, self.replaced(at, line))

    def test_up_to_four_masters(self):
        text = "ring left left any left\n"
        for many in range(1, 5):
            text += "master\nplaces 0 0 8 0 8 8 0 8\n"
            self.assertEqual(parse(text), (FOUR, (SQUARE,) * many))
        for more in ("master", "master\n", "master\nplaces 0 0 8 0 8 8 0 8\n", "x", "\n", "places 0 0 8 0 8 8 0 8"):
            self.bad(9, text + more)

    def test_up_to_ten_corners(self):
        ends = {8: "\nmaster\nplaces 0 0 9 0 0 9 1 1 2 2 3 3 4 4 5 5\n"}
        text = "ring" + " any" * 8
        self.assertEqual(parse(text + ends[8])[0], (("any",) * 8,))
        self.bad(0, text + " any" + ends[8])
        self.bad(0, "ring any any" + ends[8])
        for sizes, at in (((5, 5), 2), ((3, 7), 2), ((3, 3, 4), 3), ((8, 3), 1), ((5, 6), 1), ((3, 3, 5), 2), ((3, 8), 1),
                          ((3, 3, 3, 3), 3), ((3, 3, 4, 3), 3), ((3, 3, 3), 3), ((8,), 1), ((9,), 0), ((2,), 0)):
            # A text that ends behind the rings, or tells the first line that is wrong.
            text = "".join("ring" + " left" * many + "\n" for many in sizes)
            self.bad(at, text)
            self.bad(at, text[:-1])
            self.assertEqual(slow_at(text), at)

    def test_rings_behind_a_master(self):
        self.bad(3, "ring any any any\nmaster\nplaces 0 0 1 1 2 3\nring any any any\n")
        self.bad(1, "ring any any any\nplaces 0 0 1 1 2 3\n")
        self.bad(2, "ring any any any\nmaster\nmaster\n")
        self.bad(2, "ring any any any\nmaster\nring any any any\n")

    def test_the_form_of_the_drawing_does_not_matter(self):
        text = "ring left left left\nmaster\nplaces 0 0 0 0 0 0\n"
        self.assertEqual(parse(text), ((("left",) * 3,), ((((0, 0),) * 3,),)))

    def test_other_letters_than_of_the_document(self):
        for text in ("RING any any any", "Ring any any any", "ring Any any any", "ring left left lefT"):
            self.bad(0, text + "\nmaster\nplaces 0 0 1 1 2 3\n")

    def test_changed_texts_like_a_slow_one(self):
        chance = random.Random(91)
        seen = {}
        for _ in range(3000):
            letter = random_letter(chance)
            text = printed(letter, [random_drawing(chance, letter, 99) for _ in range(chance.randint(1, 4))])
            for _ in range(chance.choice((0, 1, 1, 2))):
                text = self.changed(chance, text)
            at = self.like_slow(text)
            seen[at] = seen.get(at, 0) + 1
        self.assertGreater(min(seen[None], seen[0], seen[1], seen[2], seen[3]), 20)

    def changed(self, chance, text):
        lines = text.split("\n")
        at = chance.randrange(len(lines))
        other = chance.randrange(len(lines))
        words = lines[at].split(" ")
        word = chance.randrange(len(words))
        words[word:word + chance.randint(0, 1)] = [chance.choice(("", "0", "-5", "any", "left", "05", "100"))]
        rows = [lines[:at] + lines[at + 1:], lines[:at] + [lines[other]] + lines[at:], lines[:at], lines[:at] + [""],
                lines[:at] + [lines[other]] + lines[at + 1:], lines[:at] + [" ".join(words)] + lines[at + 1:]]
        return "\n".join(chance.choice(rows))

    def test_long_texts_in_reasonable_time(self):
        start = time.perf_counter()
        letter = (("straight",) * 8,)
        text = printed(letter, ((((-99, -99),) * 8,),) * 4)
        self.assertEqual(parse(text), (letter, ((((-99, -99),) * 8,),) * 4))
        for more in ("\n" * 4000, "master\n" * 600, "ring any any any\n" * 250):
            self.bad(9, text + more)
        for text in ("ring any any any\n" * 290, "ring" + " any" * 1200, "ring " + "x" * 4900):
            self.bad(3 if "\n" in text else 0, text)
        self.assertLess(time.perf_counter() - start, 2)


if __name__ == "__main__":
    unittest.main()
