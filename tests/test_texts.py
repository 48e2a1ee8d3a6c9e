import time
import unittest

from bendfronts import errors
from bendfronts.bands import bandings
from bendfronts.deeds import deeds
from bendfronts.drawings import is_drawing
from bendfronts.settings import settings
from bendfronts.sums import is_sum
from bendfronts.texts import read_drawing, read_sum, show_drawing, show_list, show_sum
from samples import (
    B, C, CURLED, E, ROUND, SAMPLES, TREFOIL, ZIGZAG, banded_drawings, check_own, greatest_drawings, short_drawings, told,
)

# Texts that write no drawing.
NO_DRAWINGS = (
    "", " ", "--", "- ", " -", "-1", "0", "1", "none", "b", "b0", "e0", "c0", "b0 c0", "e0 b0", "b0 e1", "b1 e0", "b0 e0 e0",
    "b0 c1 e0", "b0 b0 e0", "b0  e0", " b0 e0", "b0 e0 ", "b0 e0  ", "b0,e0", "b0e0", "b 0 e 0", "b0\te0", "b0 e0\n",
    "B0 E0", "b0 E0", "B0 e0", "C0", "b00 e0", "b0 e00", "b00 e00", "b01 e0", "b-0 e0", "b0 e-0", "b-1 e0", "b+0 e0",
    "b0. e0", "b0.0 e0", "b0 e0 -", "- b0 e0", "b0 - e0", "x0", "b0 x0 e0", "d0 e0", "b0 c0 c e0", "b0 cc0 e0", "bb0 e0",
    "b10 e0", "b0 c10 e0", "b0 e10", "b0 c100 e0", "b0 c" + "9" * 1000 + " e0", "b0 c" + "0" * 1000 + " e0",
    "born 0 end 0", "born0 end0", "('born', 0)", "b0 e0 # x", "b0 e0;", "b0 + e0", "(b0 e0)", "b0 b2 b4 b6 b8 e0 e0 e0 e0 e0",
    "b0 e0 " * 8 + "b0 e0", "b0 " + "c0 " * 13 + "e0", "b0 " * 5 + "e0 " * 4 + "e0", "~", "x" * 2000, "b0 " * 600,
)

# Sums, as texts.
SUMS = (
    ([], "0"),
    ([()], "1"),
    ([(3, 5), (7,)], "x3.x5 + x7"),
    ([(), (0,)], "1 + x0"),
    ([(0,)], "x0"),
    ([(0, 0)], "x0.x0"),
    ([(1,), (1, 2), (2,)], "x1 + x1.x2 + x2"),
    ([(9,), (10,)], "x9 + x10"),
    ([(99,)], "x99"),
    ([(10, 99, 0)], "x10.x99.x0"),
    ([(1, 2, 3, 4, 5, 6, 7, 8)], "x1.x2.x3.x4.x5.x6.x7.x8"),
)

# Texts that write no sum.
NO_SUMS = (
    "", " ", "-", "2", "00", "01", "10", "x", "x ", " x1", "x1 ", "x1+x2", "x1 +x2", "x1+ x2", "x1  + x2", "x1 +  x2",
    "x1 + ", " + x1", "+", " + ", "x1 + + x2", "x1 x2", "x1,x2", "X1", "x1 + X2", "x01", "x00", "x-1", "x-0", "x+1", "x1.",
    ".x1", "x1..x2", "x1. x2", "x1 .x2", "x1.1", "1.x1", "1.1", "x1.0", "0 + x1", "x1 + 0", "0 + 0", "1 + 1", "1 + 0",
    "x1 + 1", "x1 + x1", "x2 + x1", "x10 + x9", "x1.x2 + x1", "1 + x1 + x1", "x100", "x1.x100", "x999", "1 + x100",
    "x1.x2.x3.x4.x5.x6.x7.x8.x9", "y1", "1x", "x1x2", "x1\n", "x1 + x2\n", "x1\t+ x2", "-x1", "x1 - x2", "x1 * x2",
    "(x1)", "[]", "nought", "x" + "9" * 1000, "x" + "0" * 1000, "x1.1 + x2", "1 + 1 + x2", "x" * 2000,
)

# Things that are no text.
NO_TEXTS = (None, True, False, 0, 1, -1, 10 ** 59, [], ["b0 e0"], [("born", 0), ("end", 0)], (), ("b0 e0",), ["0"], [()], ["-"])


class Case(unittest.TestCase):
    def refused(self, ask, thing):
        with self.assertRaises(errors.FrontError) as caught:
            ask(thing)
        self.assertIs(type(caught.exception), errors.NoText, thing)


class Drawings(Case):
    def test_shown(self):
        self.assertEqual(show_drawing([]), "-")
        self.assertEqual(show_drawing([(B, 0), (C, 1), (E, 0)]), "b0 c1 e0")
        self.assertEqual(show_drawing(told(TREFOIL)), TREFOIL)
        # Somewhat beyond the bounds.
        self.assertEqual(show_drawing([(B, 10), (E, 12)]), "b10 e12")

    def test_read(self):
        self.assertEqual(read_drawing("-"), [])
        self.assertEqual(read_drawing("b0 e0"), [(B, 0), (E, 0)])
        self.assertEqual(read_drawing(TREFOIL), told(TREFOIL))
        self.assertEqual(read_drawing("b0 b2 b4 b6 e0 e0 e0 e0")[3], (B, 6))

    def test_to_and_fro(self):
        drawings = [told(text) for text in SAMPLES] + list(short_drawings(6)) + greatest_drawings(10)
        for drawing in drawings + banded_drawings(10, range(2, 9), range(2, 13)):
            text = show_drawing(drawing)
            found = read_drawing(text)
            self.assertEqual(found, drawing)
            self.assertIs(is_drawing(found), True)
            self.assertEqual(show_drawing(found), text)

    def test_texts_of_no_drawing(self):
        for text in NO_DRAWINGS:
            with self.subTest(text=text):
                self.refused(read_drawing, text)

    def test_texts_with_one_sign_put_otherwise(self):
        for text in ("b0 e0", CURLED, TREFOIL, ZIGZAG, "-"):
            for at in range(len(text) + 1):
                for sign in (" ", "0", "1", "9", "b", "c", "e", "B", "-", "+", "x", ",", "~", "!", "."):
                    for thing in (text[:at] + sign + text[at:], text[:at] + sign + text[at + 1:], text[:at] + text[at + 1:]):
                        due = self.read_by_hand(thing)
                        if due is None:
                            self.refused(read_drawing, thing)
                        else:
                            self.assertEqual(read_drawing(thing), due)

    def read_by_hand(self, text):
        """The drawing that is shown by a text, out of all that might be meant."""
        letters = []
        for word in [] if text == "-" else text.split(" "):
            kind = {"b": B, "c": C, "e": E}.get(word[:1])
            letters += [(kind, k) for k in range(100) if word[1:] == str(k)] or [None]
        return letters if is_drawing(letters) else None

    def test_what_is_no_text(self):
        for thing in NO_TEXTS:
            with self.subTest(thing=thing):
                self.refused(read_drawing, thing)
                self.refused(read_sum, thing)


class Sums(Case):
    def test_shown_and_read(self):
        for one, text in SUMS:
            self.assertEqual(show_sum(one), text)
            self.assertEqual(read_sum(text), one)
            self.assertIs(is_sum(read_sum(text)), True)

    def test_great_sums_are_shown(self):
        self.assertEqual(show_sum([(100,), (1000, 2)]), "x100 + x1000.x2")
        many = [(name,) for name in range(201)]
        self.assertEqual(show_sum(many).count(" + "), 200)
        self.assertEqual(show_sum([tuple(range(9))]), "x0.x1.x2.x3.x4.x5.x6.x7.x8")

    def test_forty_words_and_forty_one(self):
        for many in (39, 40):
            one = [(name,) for name in range(many)]
            self.assertEqual(read_sum(show_sum(one)), one)
        self.refused(read_sum, show_sum([(name,) for name in range(41)]))
        self.refused(read_sum, show_sum([()] + [(name,) for name in range(40)]))
        self.refused(read_sum, show_sum([(name,) for name in range(99)]))

    def test_eight_names_and_nine(self):
        for many in (7, 8):
            one = [(), tuple(range(many)), (5,)]
            self.assertEqual(read_sum(show_sum(one)), one)
        self.refused(read_sum, show_sum([tuple(range(9))]))
        self.refused(read_sum, show_sum([(), (1, 1, 1, 1, 1, 1, 1, 1, 1), (2,)]))

    def test_forty_words_of_eight_names(self):
        one = [(1, 2, 3, 4, 5, 6, 7, name) for name in range(10, 50)]
        self.assertEqual(read_sum(show_sum(one)), one)

    def test_texts_of_no_sum(self):
        for text in NO_SUMS:
            with self.subTest(text=text):
                self.refused(read_sum, text)

    def test_deeds_to_and_fro(self):
        for drawing in [told(text) for text in SAMPLES] + banded_drawings(15, range(2, 4), range(2, 6)):
            for deed in deeds(drawing):
                if len(deed) <= 40 and all(len(word) <= 8 for word in deed):
                    self.assertEqual(read_sum(show_sum(deed)), deed)


class Lists(unittest.TestCase):
    def test_shown(self):
        self.assertEqual(show_list([]), "-")
        self.assertEqual(show_list([0]), "0")
        self.assertEqual(show_list([0, 0, 1, 0, 0]), "0,0,1,0,0")
        self.assertEqual(show_list([2, 3, 14]), "2,3,14")
        self.assertEqual(show_list([-1]), "-1")
        self.assertEqual(show_list([3, -2, 0, -10]), "3,-2,0,-10")
        self.assertEqual(show_list([10 ** 59]), "1" + "0" * 59)

    def test_settings_and_bandings(self):
        for setting in settings(told(TREFOIL), 1):
            self.assertEqual([int(word) for word in show_list(setting).split(",")], setting)
        self.assertEqual([show_list(one) for one in bandings(told(TREFOIL), 0)], ["2", "2,3,4", "4"])
        self.assertEqual(show_list(bandings(told(ROUND), 0)[0]), "-")


class Kept(unittest.TestCase):
    def test_answers_are_the_askers_own(self):
        for text in ("-", ROUND, TREFOIL):
            for ask in (lambda handed: read_drawing(text), lambda handed: show_drawing(handed)):
                check_own(self, ask, told(TREFOIL), told(TREFOIL))
            first, second = read_drawing(text), read_drawing(text)
            first.append("mine")
            self.assertEqual(show_drawing(second), text)
        for one, text in SUMS:
            check_own(self, show_sum, one, [])
            first, second = read_sum(text), read_sum(text)
            first.append("mine")
            self.assertEqual(second, one)
            self.assertEqual(read_sum(text), one)
        check_own(self, show_list, [3, -1, 2], [])

    def test_no_answer_takes_long(self):
        for text in ("b0 " * 666, "x" * 2000, "x1 + " * 399 + "x1", "b0 c" + "1" * 1990, "x1." * 600, " " * 2000):
            begun = time.process_time()
            for ask in (read_drawing, read_sum):
                with self.assertRaises(errors.NoText):
                    ask(text)
            self.assertLess(time.process_time() - begun, 1)


if __name__ == "__main__":
    unittest.main()
