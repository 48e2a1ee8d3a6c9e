import random
import time
import unittest

from bendfronts import errors
from bendfronts.deeds import deeds
from bendfronts.desk import Desk
from bendfronts.drawings import names_of
from bendfronts.settings import is_setting, settings
from bendfronts.texts import show_drawing, show_sum
from samples import (
    CURLED, ODD_LINK, ROUND, TREFOIL, ZIGZAG,
    all_moves, banded_drawings, drawn_road, greatest_drawings, has_eight_strands, scales_of, told,
)

UNLIKE = "b0 b2 b2 c3 c1 c1 c2 c2 c3 c1 c3 e0 e0 e0"
BARE = "b0 c0 c0 e0"
MANY = "b0 b2" + " c1" * 12 + " e0 e0"
LONG = "b0 b2" + " c1" * 11 + " e0 e0"

# What stands at the desk of these tests.
STANDING = (
    ("a", "-"), ("r", ROUND), ("t", TREFOIL), ("z", ZIGZAG), ("c", CURLED), ("o", ODD_LINK), ("u", UNLIKE), ("bare", BARE),
    ("many", MANY), ("long", LONG), ("abcdefgh", ROUND),
)

# Rows, and the answers to them.
ANSWERS = (
    ("show a", "-"),
    ("show t", TREFOIL),
    ("show abcdefgh", ROUND),
    ("turns a", "-"),
    ("turns t", "0"),
    ("turns z", "1"),
    ("turns o", "0,0"),
    ("twists a", "0"),
    ("twists r", "-1"),
    ("twists t", "1"),
    ("many a 1", "1"),
    ("many t 0", "5"),
    ("many t 1", "20"),
    ("many z 1", "0"),
    ("many many 1", "10924"),
    ("setting a 1", "-"),
    ("setting r 0", "0"),
    ("setting z 1", "none"),
    ("setting bare 0", "none"),
    ("setting bare 1", "none"),
    ("bands a 1", "0:1"),
    ("bands r 0", "-1:1"),
    ("bands t 0", "-1:2 1:1"),
    ("bands o 1", "-2:1 0:1"),
    ("bands z 1", "none"),
    ("bands bare 0", "none"),
    ("bands many 1", "-2:1 0:21 2:70 4:84 6:45 8:11 10:1"),
    ("weight a 1", "1 0"),
    ("weight r 0", "1 1"),
    ("weight t 0", "5 -1"),
    ("weight z 1", "0 0"),
    ("weight many 1", "2731 -10"),
    ("marks a 1", "-/1/0"),
    ("marks r 0", "1:1/1/1"),
    ("marks t 0", "0:2,1:1/5/-1"),
    ("marks t 1", "0:3/5/-1"),
    ("marks o 1", "0:2/1/2 0:4/1/0"),
    ("marks u 0", "-1:1,0:4,1:2/1/1 0:2,1:1/3/1"),
    ("marks z 1", "none"),
    ("marks bare 0", "none"),
    ("apart t t", "none"),
    ("apart r c", "none"),
    ("apart a a", "none"),
    ("apart r t", "twists,bands 0,marks 0,bands 1,marks 1"),
    ("apart r z", "turns,twists,bands 1,marks 1"),
    ("apart o r", "turns,bands 1,marks 1"),
    ("apart t long", "twists,bands 0,bands 1"),
    ("deed r 1", "0"),
    ("deed t 2", "0"),
    ("deed t 5", "1 + x2 + x2.x3.x4 + x4"),
    ("deed t 6", "1 + x2 + x4 + x4.x3.x2"),
    ("deed z 2", "1"),
    ("deed c 2", "0"),
)

# What is none of the rows, whatever stands at the desk.
NO_ROWS = (
    "", " ", "show", "show ", " show t", "show t ", "show  t", "show t t", "Show t", "SHOW t", "shows t", "sho t", "t", "help",
    "none", "born 0", "show\tt", "show t\n", "show,t", "show T", "show tT", "show t1", "show 1", "show -", "show t-", "show t_",
    "show abcdefghi", "show .", "show t.", "turns", "turns t 0", "turns  t", "twists", "twists t 1", "twists T", "many",
    "many t", "many t 2", "many t 00", "many t 01", "many t -1", "many t -0", "many t 0 ", "many t  0", "many t 0 0", "many 0 t",
    "many t x", "many t 10", "many t +1", "many T 0", "setting t", "setting t 2", "setting t one", "setting", "setting t 0 1",
    "bands t", "bands t 3", "bands t 0 0", "bands", "weight t", "weight t -1", "weight", "weight t 1 1", "marks t", "marks t 2",
    "marks", "marks t 0 1", "apart", "apart t", "apart t t t", "apart t  t", "apart t T", "apart T t", "apart t ", "deed", "deed t",
    "deed t x", "deed t x5", "deed t 05", "deed t 5 ", "deed t 5 5", "deed t 1000", "deed t -1000", "deed t -0", "deed t --5",
    "deed T 5", "deed t 5.0", "deed t +5", "deed t 00", "copy", "copy t", "copy n t t", "copy N t", "copy n T", "copy n  t",
    "copy n t ", "copy abcdefghi t", "copy n abcdefghi", "copy 1 t", "copy  t", "slide", "slide t", "slide t ", "slide t x",
    "slide t 00", "slide t 01", "slide t 0 0", "slide t  0", "slide t 1000", "slide t 0 above", "slide 0 t", "slide T 0",
    "slide t +0", "slide t -0", "slide t 0.0", "slide t -", "three t", "three t 02", "three t 2 2", "pull t", "pull t 001",
    "pull t 1 above", "uncurl t", "uncurl t 1 0 above", "uncurl t -00", "push t", "push t 0", "push t above", "push t 0 Above",
    "push t 0 up", "push t 0 above ", "push t 0  above", "push t 0 0 above", "push t 00 above", "push t 0 above below", "push t 0 ",
    "push t above 0", "push t 1000 below", "curl t", "curl t 1", "curl t 1 0", "curl t 1 above", "curl t 1 0 left",
    "curl t 1 0 above above", "curl t 01 0 above", "curl t 1 00 above", "curl t 1000 0 above", "curl t 1 1000 above",
    "curl t 1 0  above", "curl t 1 0 ABOVE", "curl t above 1 0", "curl t 1 -0 above", "draw", "draw ", "draw t", "draw  t",
    "draw T b0 e0", "draw 1 b0 e0", "draw t1 b0 e0", "draw abcdefghi b0 e0", "draw  b0 e0", "draw - b0 e0", "draw  t b0 e0",
    " draw t b0 e0", "Draw t b0 e0", "draws t b0 e0", "draw\tt b0 e0", "draw b0", "draw b0 e0", "draw -",
)

NO_TEXTS = (None, True, False, 0, 1, [], ["show t"], (), ("show", "t"), ["show", "t"], [("show t",)])


def standing():
    """A desk at which the drawings of these tests stand."""
    desk = Desk()
    for name, text in STANDING:
        desk.say(f"draw {name} {text}")
    return desk


class Case(unittest.TestCase):
    def setUp(self):
        self.desk = standing()

    def answer(self, row, due):
        found = self.desk.say(row)
        self.assertIs(type(found), str)
        self.assertEqual(found, due, row)

    def refused(self, row, error, desk=None):
        with self.assertRaises(errors.FrontError) as caught:
            (desk or self.desk).say(row)
        self.assertIs(type(caught.exception), error, row)

    def same(self):
        """That what stood at the desk at first stands there still."""
        for name, text in STANDING:
            self.answer(f"show {name}", text)


class Answers(Case):
    def test_answers(self):
        for row, due in ANSWERS:
            with self.subTest(row=row):
                self.answer(row, due)
        self.same()

    def test_any_setting(self):
        for name, text in STANDING[1:]:
            for scale in scales_of(told(text)):
                found = self.desk.say(f"setting {name} {scale}")
                if found != "none":
                    setting = [int(word) for word in found.split(",")]
                    self.assertTrue(is_setting(told(text), scale, setting))
                else:
                    self.assertEqual(settings(told(text), scale), [])

    def test_all_deeds(self):
        for name, text in STANDING:
            drawing = told(text) if text != "-" else []
            if name in ("many", "long"):
                continue
            for t, deed in zip(names_of(drawing), deeds(drawing)):
                self.answer(f"deed {name} {t}", show_sum(deed))

    def test_deed_of_no_name(self):
        # Births, numbers past the end and below 0.
        for row in ("deed t 0", "deed t 1", "deed t 7", "deed t 99", "deed t 999", "deed t -1", "deed t -5", "deed t -999",
                    "deed a 0", "deed r 0", "deed r 2"):
            self.refused(row, errors.NoRow)
        # Ahead of what the function refuses.
        self.refused("deed many 0", errors.NoRow)
        self.refused("deed many 2", errors.TooMany)
        self.refused("deed many 13", errors.TooMany)
        # Behind a name by which nothing stands.
        self.refused("deed none 0", errors.NoName)
        self.refused("deed none 999", errors.NoName)
        self.refused("deed none 1000", errors.NoRow)

    def test_deed_of_a_name_of_two_figures(self):
        self.answer("deed long 13", show_sum(deeds(told(LONG))[11]))
        self.assertIn("x10", self.desk.say("deed long 13"))

    def test_what_the_functions_refuse(self):
        for word in ("many", "setting", "bands", "weight", "marks"):
            for name in ("a", "z", "o", "many"):
                self.refused(f"{word} {name} 0", errors.NoHeights)
        self.refused("marks many 1", errors.TooMany)
        self.refused("marks long 0", errors.TooMany)
        self.same()


class Drawing(Case):
    def test_draw(self):
        self.answer("draw n b0 e0", "ok")
        self.answer("show n", "b0 e0")
        self.answer("draw n -", "ok")
        self.answer("show n", "-")

    def test_a_name_drawn_anew(self):
        self.answer(f"draw r {TREFOIL}", "ok")
        self.answer("show r", TREFOIL)
        self.answer("many r 0", "5")
        self.answer("apart r t", "none")
        self.answer(f"draw r {ROUND}", "ok")
        self.answer("many r 0", "1")

    def test_names(self):
        for name in ("x", "draw", "show", "copy", "none", "ok", "above", "abcdefgh", "zzzzzzzz", "b"):
            self.answer(f"draw {name} {CURLED}", "ok")
            self.answer(f"show {name}", CURLED)

    def test_texts_that_are_none(self):
        for text in ("", " ", "b0", "e0", "b0 e0 ", " b0 e0", "b0  e0", "B0 e0", "b00 e0", "b0 e1", "--", "- ", "b0 c0 e0\n",
                     "b0 b0 b0 b0 b0 e0 e0 e0 e0 e0", "0", "ok", "b0 e0 " * 9, "b0,e0", "draw n b0 e0"):
            self.refused("draw n " + text, errors.NoText)
            self.refused("draw t " + text, errors.NoText)
        self.refused("show n", errors.NoName)
        self.same()


class Copying(Case):
    def test_copy(self):
        self.answer("copy n t", "ok")
        self.answer("show n", TREFOIL)
        self.answer("copy n r", "ok")
        self.answer("show n", ROUND)
        self.answer("copy t t", "ok")
        self.same()

    def test_the_copy_stays_when_the_first_one_is_moved(self):
        self.answer("copy n t", "ok")
        self.answer("slide t 0", "ok")
        self.answer("show n", TREFOIL)
        self.answer("show t", "b0 b0 c1 c1 c1 e0 e0")
        self.answer("draw t -", "ok")
        self.answer("show n", TREFOIL)

    def test_the_first_one_stays_when_the_copy_is_moved(self):
        self.answer("copy n t", "ok")
        self.answer("slide n 5", "ok")
        self.answer("show t", TREFOIL)
        self.answer("show n", "b0 b2 c1 c1 c1 e2 e0")
        self.answer("copy m n", "ok")
        self.answer("draw n -", "ok")
        self.answer("show m", "b0 b2 c1 c1 c1 e2 e0")
        self.same()


class Moving(Case):
    def test_each_move(self):
        for row, text, due in (
            ("slide n 0", TREFOIL, "b0 b0 c1 c1 c1 e0 e0"),
            ("three n 2", "b0 b0 c0 c1 c0 e0 e0", "b0 b0 c1 c0 c1 e0 e0"),
            ("pull n 1", "b0 b1 c0 c1 e0 e0", "b0 b0 e0 e0"),
            ("uncurl n 1", CURLED, ROUND),
            ("push n 1 above", "b0 b1 e1 e0", "b0 b0 c1 c0 e1 e0"),
            ("push n 2 below", "b0 b1 e1 e0", "b0 b1 c2 c1 e2 e0"),
            ("curl n 1 0 above", ROUND, CURLED),
            ("curl n 1 1 below", ROUND, "b0 b2 c1 e2 e0"),
        ):
            self.answer(f"draw n {text}", "ok")
            self.answer(row, "ok")
            self.answer("show n", due)
        self.same()

    def test_moves_that_cannot_be_done(self):
        for row in (
            "slide t 2", "slide t 6", "slide t 7", "slide t 999", "slide t -1", "slide t -999", "three t 2", "three t -1",
            "pull t 0", "pull t -1", "uncurl t 0", "uncurl t -12", "push t 0 above", "push t 2 below", "push t -1 above",
            "push t 999 below", "curl t 0 0 above", "curl t 7 0 below", "curl t 1 2 above", "curl t 1 -1 above",
            "curl t -1 0 above", "curl t 999 0 below", "curl t 1 999 below", "curl many 1 0 above", "slide a 0", "curl a 0 0 above",
        ):
            self.refused(row, errors.NoMove)
        self.same()

    def test_answers_behind_moves(self):
        for row in ("curl t 1 0 above", "slide t 0", "curl t 2 1 below"):
            self.answer("copy n t", "ok")
            self.answer(row, "ok")
            self.answer("apart t n", "none")
            for ask in ("turns {}", "twists {}", "bands {} 0", "weight {} 0", "marks {} 0", "bands {} 1", "weight {} 1"):
                self.assertEqual(self.desk.say(ask.replace("{}", "t")), self.desk.say(ask.replace("{}", "n")))
        self.answer("weight t 0", "5 -1")
        self.answer("many t 0", "5")
        self.answer("many t 1", "80")

    def test_along_drawn_roads(self):
        chance = random.Random(16)
        for drawing in [told(TREFOIL), told(CURLED), told(ZIGZAG)] + banded_drawings(5, range(2, 6), range(2, 9)):
            self.desk.say(f"draw n {show_drawing(drawing)}")
            moves, drawings = drawn_road(chance, drawing, 20)
            for move, behind in zip(moves, drawings[1:]):
                self.answer(" ".join([move[0], "n"] + [str(part) for part in move[1:]]), "ok")
                self.answer("show n", show_drawing(behind))

    def test_all_moves_of_a_drawing(self):
        for text in (TREFOIL, CURLED):
            for move in all_moves(told(text)):
                self.desk.say(f"draw n {text}")
                row = " ".join([move[0], "n"] + [str(part) for part in move[1:]])
                try:
                    self.answer(row, "ok")
                except errors.NoMove:
                    self.answer("show n", text)


class Refusals(Case):
    def test_no_rows(self):
        empty = Desk()
        for row in NO_ROWS:
            with self.subTest(row=row):
                self.refused(row, errors.NoRow)
                self.refused(row, errors.NoRow, empty)
        self.same()

    def test_what_is_no_text(self):
        for row in NO_TEXTS:
            self.refused(row, errors.NoRow)

    def test_names_by_which_nothing_stands(self):
        for row in (
            "show n", "turns n", "twists n", "many n 0", "setting n 1", "bands n 0", "weight n 1", "marks n 0", "apart n t",
            "apart t n", "apart n n", "deed n 5", "copy m n", "copy n n", "copy t n", "slide n 0", "three n 0", "pull n 0",
            "uncurl n 0", "push n 0 above", "curl n 0 0 below", "show abcdefg", "show tt", "show ab",
        ):
            self.refused(row, errors.NoName)
        self.same()
        self.refused("show n", errors.NoName)
        self.refused("show m", errors.NoName)

    def test_no_row_ahead_of_no_text_and_no_name(self):
        self.refused("draw N b0", errors.NoRow)
        self.refused("draw n1 ", errors.NoRow)
        self.refused("draw abcdefghi nothing", errors.NoRow)
        for row in ("many n 2", "slide n 00", "push n 0 left", "curl n 1 0 left", "curl n 1000 0 above", "deed n 05", "copy N n",
                    "apart n N", "apart N n", "show n n", "many n", "setting n -1", "slide n -0"):
            self.refused(row, errors.NoRow)

    def test_no_text_ahead_of_all_but_no_row(self):
        self.refused("draw n b0", errors.NoText)
        self.refused("draw n  b0 e0", errors.NoText)
        self.refused("draw n ", errors.NoText)

    def test_no_name_ahead_of_what_the_functions_refuse(self):
        for row in ("slide n 999", "slide n -1", "curl n 999 999 above", "many n 0", "marks n 0", "apart many n", "deed n -1"):
            self.refused(row, errors.NoName)

    def test_numbers(self):
        # Three figures, with a sign ahead, too, are a number that no drawing has.
        for number in ("100", "999", "-1", "-10", "-100", "-999"):
            self.refused(f"slide t {number}", errors.NoMove)
            self.refused(f"push t {number} above", errors.NoMove)
            self.refused(f"curl t {number} 0 above", errors.NoMove)
            self.refused(f"curl t 1 {number} above", errors.NoMove)
        for number in ("1000", "-1000", "0000", "001", "00", "-0", "-01", "--1", "+1", "1-", "", "a", "1a", "x1", "9" * 500):
            self.refused(f"slide t {number}", errors.NoRow)
            self.refused(f"push t {number} above", errors.NoRow)
            self.refused(f"curl t {number} 0 above", errors.NoRow)
            self.refused(f"curl t 1 {number} above", errors.NoRow)
            self.refused(f"deed t {number}", errors.NoRow)
        self.same()

    def test_names_of_eight_letters_and_nine(self):
        self.answer("copy hgfedcba t", "ok")
        self.answer("show hgfedcba", TREFOIL)
        for name in ("hgfedcbaz", "", "A", "aB", "a1", "1", "a-b", "a.b", "a_b", "a,b", "-", "~"):
            for row in (f"show {name}", f"copy {name} t", f"copy n {name}", f"draw {name} b0 e0", f"slide {name} 0",
                        f"apart t {name}", f"apart {name} t", f"many {name} 0", f"deed {name} 5"):
                self.refused(row, errors.NoRow)
        self.refused("show n", errors.NoName)


class Desks(Case):
    def test_two_desks_know_nothing_of_one_another(self):
        one, other = Desk(), Desk()
        one.say("draw x b0 e0")
        self.refused("show x", errors.NoName, other)
        other.say(f"draw x {TREFOIL}")
        self.assertEqual((one.say("show x"), other.say("show x")), (ROUND, TREFOIL))
        one.say("curl x 1 0 above")
        other.say("slide x 0")
        self.assertEqual((one.say("show x"), other.say("show x")), (CURLED, "b0 b0 c1 c1 c1 e0 e0"))
        self.refused("show x", errors.NoName, Desk())
        self.refused("show x", errors.NoName)

    def test_a_new_desk_has_nothing(self):
        for row in ("show a", "turns t", "copy a t"):
            self.refused(row, errors.NoName, Desk())

    def test_no_answer_takes_long(self):
        drawings = greatest_drawings(5) + banded_drawings(10, range(3, 9), [12], has_eight_strands)
        drawings += banded_drawings(6, range(2, 6), [12], lambda one: scales_of(one) == (0, 1))
        self.desk.say(f"draw other {TREFOIL}")
        for drawing in drawings:
            begun = time.process_time()
            self.desk.say(f"draw n {show_drawing(drawing)}")
            for row in ("turns n", "twists n", "many n 1", "setting n 1", "bands n 1", "weight n 1", "marks n 1", "apart n other",
                        f"deed n {len(drawing) - 1}", "marks n 0", "slide n 0", "copy m n"):
                try:
                    self.desk.say(row)
                except errors.FrontError:
                    pass
            self.assertLess(time.process_time() - begun, 10)


if __name__ == "__main__":
    unittest.main()
