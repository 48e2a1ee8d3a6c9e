import random
import time
import unittest

from bendfronts import errors
from bendfronts.bands import band_sum
from bendfronts.drawings import is_drawing
from bendfronts.groups import marks
from bendfronts.leading import weight
from bendfronts.moves import moved, moves, way_back
from bendfronts.roads import apart, is_road, walked
from bendfronts.settings import how_many
from bendfronts.threads import turns, twists
from samples import (
    CURLED, EMPTY, EVEN_LINK, ODD_LINK, ROUND, SAMPLES, TREFOIL, ZIGZAG,
    banded_drawings, check_own, drawn_road, greatest_drawings, has_eight_strands, scales_of, short_drawings, told,
)

# Two drawings and the texts in which they are unlike.
APART = (
    (EMPTY, EMPTY, []),
    (ROUND, ROUND, []),
    (ROUND, CURLED, []),
    (EMPTY, ROUND, ["turns", "bands 1", "marks 1"]),
    (ROUND, ZIGZAG, ["turns", "twists", "bands 1", "marks 1"]),
    (ROUND, TREFOIL, ["twists", "bands 0", "marks 0", "bands 1", "marks 1"]),
    (ROUND, ODD_LINK, ["turns", "bands 1", "marks 1"]),
    # Each text alone.
    ("b0 b0 b0 c1 e0 e1 e0", "b0 b0 b0 b0 e0 e0 e1 e0", ["turns"]),
    ("b0 b0 b0 c1 e0 e1 e0", "b0 b0 b0 b1 e0 e1 e1 e0", ["twists"]),
    ("b0 b1 b3 c2 c2 c3 c3 e2 c2 c0 c1 c1 e0 e0", "b0 b0 c1 c1 c2 c2 c2 c1 c1 c2 c2 e1 e0", ["twists"]),
    ("b0 b0 c1 b2 c3 c1 c1 c0 c4 c0 e2 c0 c0 c0 c0 c0 e1 e0", "b0 b0 c1 b0 c3 c1 e2 c1 c2 c0 c2 c0 c2 c0 c0 c0 e1 e0",
     ["bands 0"]),
    ("b0 b2 b4 c3 c1 c3 e2 c1 c0 c2 c1 c1 e2 e0", "b0 b1 c0 c1 c1 c1 c2 c2 c0 c0 c1 e0 e0", ["marks 0"]),
    ("b0 b1 c2 c0 c2 c0 c2 c0 c0 c2 e1 e0", "b0 b2 e0 e0", ["bands 1"]),
    ("b0 b2 c1 c1 c1 c0 c2 c0 c0 c2 c1 c1 c1 e0 e0", "b0 b1 c0 c2 c2 c0 c1 c1 c1 c1 c1 e0 e0", ["bands 1"]),
    ("b0 b2 b4 e2 c1 c1 c2 c0 c0 e1 e0", "b0 b2 c1 c1 e2 e0", ["marks 1"]),
    # With others.
    ("b0 b1 c0 c2 c1 c1 c2 c2 c0 e1 e0", "b0 b2 c1 c1 c2 c0 c1 c1 c1 e2 e0", ["bands 0", "marks 0"]),
    ("b0 b2 c1 c1 e2 e0", "b0 b2 e0 e0", ["bands 1", "marks 1"]),
    ("b0 b0 b0 c1 e0 e1 e0", "b0 b0 b0 b0 e1 e1 e1 e0", ["turns", "twists"]),
    ("b0 b0 c1 c1 c0 c0 e1 e0", EMPTY, ["turns", "marks 1"]),
    ("b0 b1 c2 c0 c2 c0 c2 c0 c0 c2 e1 e0", EMPTY, ["turns", "bands 1"]),
    ("b0 b2 c1 c1 c2 c0 c1 c1 c1 e2 e0", "b0 b2 c1 c1 c1 c2 c2 e1 e0", ["twists", "marks 0"]),
    ("b0 b0 c1 c1 c0 c0 e1 e0", "b0 b0 b0 c1 e0 e1 e0", ["twists", "bands 1", "marks 1"]),
    ("b0 b0 c1 c0 c0 c1 c1 c0 c0 c0 c2 e1 e0", "b0 b0 c1 c1 c1 c0 c0 c2 c2 c2 c2 e1 e0",
     ["bands 0", "marks 0", "bands 1"]),
    ("b0 b2 c1 c1 c0 c2 c2 c2 c1 c1 c1 e0 e0", "b0 b1 c0 c0 c1 c1 c2 c2 c1 c1 c2 e1 e0",
     ["marks 0", "bands 1", "marks 1"]),
)

NO_ROADS = (
    None, True, False, 0, "", "slide", (), ("slide", 0), (("slide", 0),), [None], [True], [0], [""], ["slide"], [[]], [()],
    [["slide", 0]], [("slide",)], [("slide", 0, 0)], [("slide", True)], [("slide", "0")], [("slide", -1)], [[("slide", 0)]],
    [("slide", 0), None], [("slide", 0), ("slide", 99)], [("slide", 99), ("slide", 0)], [("three", 0)], [("none", 0)],
    [("slide", 10 ** 59)], [(["slide"], 0)], [("push", 0, ["above"])], [("slide", 0), ()],
)


def apart_by_hand(one, other):
    """In what two drawings are unlike, told the other way about: what is the same is taken off."""
    texts = ["turns", "twists", "bands 0", "marks 0", "bands 1", "marks 1"]
    if sorted(turns(one)) == sorted(turns(other)):
        texts.remove("turns")
    if len(turns(one)) != 1 or len(turns(other)) != 1 or twists(one) == twists(other):
        texts.remove("twists")
    for scale in (0, 1):
        has = scale in scales_of(one) and scale in scales_of(other)
        if not has or band_sum(one, scale) == band_sum(other, scale):
            texts.remove(f"bands {scale}")
        few = has and how_many(one, scale) <= 500 and how_many(other, scale) <= 500
        if not few or marks(one, scale) == marks(other, scale):
            texts.remove(f"marks {scale}")
    return texts


class Walked(unittest.TestCase):
    def test_no_move(self):
        self.assertEqual(walked(told(TREFOIL), []), [told(TREFOIL)])
        self.assertEqual(walked([], []), [[]])

    def test_one_after_the_other(self):
        self.assertEqual(
            walked(told(ROUND), [("curl", 1, 0, "above"), ("slide", 0), ("slide", 0), ("uncurl", 1)]),
            [told(text) for text in (ROUND, CURLED, "b0 b2 c1 e0 e0", CURLED, ROUND)],
        )

    def test_against_single_moves(self):
        chance = random.Random(11)
        for drawing in [told(text) for text in SAMPLES] + banded_drawings(20, range(1, 9), range(0, 13)):
            road, drawings = drawn_road(chance, drawing, 25)
            found = walked(drawing, road)
            self.assertEqual(found, drawings)
            self.assertTrue(all(is_drawing(one) for one in found))
            for one, move, other in zip(found, road, found[1:]):
                self.assertEqual(moved(one, move), other)

    def test_more_than_sixty_moves(self):
        self.assertEqual(len(walked(told(TREFOIL), [("slide", 0)] * 61)), 62)
        self.assertEqual(len(walked(told(TREFOIL), [("slide", 0)] * 200)), 201)

    def test_a_move_that_cannot_be_done(self):
        good = [("slide", 0), ("slide", 0), ("curl", 1, 0, "above"), ("uncurl", 1)]
        self.assertEqual(walked(told(TREFOIL), good)[-1], told(TREFOIL))
        for at in range(len(good) + 1):
            for bad in (("slide", 99), ("three", 0), None, [], (), "", ["slide", 0], ("slide", True), True, 0):
                with self.assertRaises(errors.FrontError) as caught:
                    walked(told(TREFOIL), good[:at] + [bad] + good[at:])
                self.assertIs(type(caught.exception), errors.NoMove)

    def test_each_drawing_is_a_list_of_its_own(self):
        for text in SAMPLES:
            drawing = told(text)
            road = drawn_road(random.Random(12), drawing, 8)[0]
            check_own(self, lambda handed: walked(handed, road), drawing, list(drawing))
            check_own(self, lambda handed: walked(drawing, handed), road, list(road))
            self.assertEqual(drawing, told(text))


class IsRoad(unittest.TestCase):
    def test_no_move(self):
        for text in SAMPLES:
            self.assertIs(is_road(told(text), told(text), []), True)
            self.assertIs(is_road(told(text), told("b0 e0 b0 e0"), []), False)
        self.assertIs(is_road(told(ROUND), told(CURLED), []), False)

    def test_ordinary_roads(self):
        self.assertIs(is_road(told(ROUND), told(CURLED), [("curl", 1, 0, "above")]), True)
        self.assertIs(is_road(told(CURLED), told(ROUND), [("uncurl", 1)]), True)
        self.assertIs(is_road(told(ROUND), told(ROUND), [("curl", 1, 0, "above"), ("uncurl", 1)]), True)
        self.assertIs(is_road(told(ROUND), told(ROUND), [("curl", 1, 0, "above")]), False)
        self.assertIs(is_road(told(ROUND), told("b0 b1 c0 e1 e0"), [("curl", 1, 0, "above")]), False)

    def test_sixty_moves_and_sixty_one(self):
        one, other = told(TREFOIL), moved(told(TREFOIL), ("slide", 0))
        for many in (1, 59):
            self.assertIs(is_road(one, other, [("slide", 0)] * many), True)
            self.assertIs(is_road(one, one, [("slide", 0)] * many), False)
        for many in (2, 58, 60):
            self.assertIs(is_road(one, one, [("slide", 0)] * many), True)
            self.assertIs(is_road(one, other, [("slide", 0)] * many), False)
        for many in (61, 62, 63, 100):
            self.assertIs(is_road(one, one, [("slide", 0)] * many), False)
            self.assertIs(is_road(one, other, [("slide", 0)] * many), False)

    def test_drawn_roads_and_their_ways_back(self):
        chance = random.Random(13)
        for drawing in [told(text) for text in SAMPLES] + banded_drawings(15, range(1, 9), range(0, 13)):
            road, drawings = drawn_road(chance, drawing, chance.choice((3, 30, 60)))
            self.assertIs(is_road(drawing, drawings[-1], road), True)
            back = [way_back(one, move) for one, move in zip(drawings, road)][::-1]
            self.assertIs(is_road(drawings[-1], drawing, back), True)
            if len(road) <= 30:
                self.assertIs(is_road(drawing, drawing, road + back), True)

    def test_a_move_that_cannot_be_done(self):
        good = [("slide", 0), ("slide", 0), ("curl", 1, 0, "above"), ("uncurl", 1)]
        self.assertIs(is_road(told(TREFOIL), told(TREFOIL), good), True)
        for at in range(len(good) + 1):
            for bad in (("slide", 99), ("three", 0), None, [], (), "", ["slide", 0], ("slide", True), True, 0):
                self.assertIs(is_road(told(TREFOIL), told(TREFOIL), good[:at] + [bad] + good[at:]), False)
        self.assertIs(is_road(told(TREFOIL), told(TREFOIL), tuple(good)), False)

    def test_things_that_are_no_road(self):
        for thing in NO_ROADS:
            for text in (TREFOIL, ROUND, EMPTY):
                with self.subTest(thing=thing, text=text):
                    self.assertIs(is_road(told(text), told(text), thing), False)

    def test_what_is_handed_in_stays(self):
        for thing in NO_ROADS + ([("slide", 0), ("slide", 0)],):
            one, other, kept = told(TREFOIL), told(TREFOIL), repr(thing)
            is_road(one, other, thing)
            self.assertEqual((one, other, repr(thing)), (told(TREFOIL), told(TREFOIL), kept))


class Apart(unittest.TestCase):
    def test_told_texts(self):
        for one, other, due in APART:
            with self.subTest(one=one, other=other):
                self.assertEqual(apart(told(one), told(other)), due)
                self.assertEqual(apart(told(other), told(one)), due)
                self.assertEqual(apart_by_hand(told(one), told(other)), due)

    def test_each_text_comes_alone(self):
        alone = [due[0] for one, other, due in APART if len(due) == 1]
        self.assertEqual(set(alone), {"turns", "twists", "bands 0", "marks 0", "bands 1", "marks 1"})

    def test_many_pairs(self):
        drawings = list(short_drawings(6))[::5] + banded_drawings(25, range(1, 4), range(0, 7))
        drawings += banded_drawings(15, range(2, 4), range(5, 9), lambda one: turns(one) == [0])
        chance = random.Random(14)
        for one in drawings:
            for other in chance.sample(drawings, 4):
                self.assertEqual(apart(one, other), apart_by_hand(one, other))

    def test_turns_as_a_sorted_list(self):
        # The pieces are the same ones, in another order.
        one, other = told("b0 c0 e0 b0 e0"), told("b0 e0 b0 c0 e0")
        self.assertEqual((turns(one), turns(other)), ([1, 0], [0, 1]))
        self.assertEqual(apart(one, other), [])

    def test_twists_only_of_one_piece(self):
        self.assertNotEqual(twists(told(ODD_LINK)), twists(told(EVEN_LINK)))
        self.assertNotIn("twists", apart(told(ODD_LINK), told(EVEN_LINK)))
        self.assertNotEqual(twists(told(ROUND)), twists(told(ODD_LINK)))
        self.assertNotIn("twists", apart(told(ROUND), told(ODD_LINK)))

    def test_marks_only_of_few_settings(self):
        few, many = told("b0 b2" + " c1" * 3 + " e0 e0"), told("b0 b2" + " c1" * 11 + " e0 e0")
        more = told("b0 b2" + " c1" * 9 + " e2 e0")
        with self.assertRaises(errors.TooMany):
            marks(many, 0)
        self.assertEqual(apart(few, many), ["twists", "bands 0", "bands 1"])
        self.assertEqual(apart(many, few), ["twists", "bands 0", "bands 1"])
        self.assertEqual(apart(many, many), [])
        self.assertEqual(how_many(more, 0), 341)
        self.assertEqual(apart(few, more), ["twists", "bands 0", "marks 0", "bands 1"])

    def test_a_drawing_with_itself(self):
        for drawing in [told(text) for text in SAMPLES] + greatest_drawings(5) + banded_drawings(10, range(2, 6), [12]):
            self.assertEqual(apart(drawing, list(drawing)), [])

    def test_along_a_road_nothing(self):
        chance = random.Random(15)
        for drawing in [told(text) for text in SAMPLES] + banded_drawings(10, range(2, 5), range(2, 9)):
            drawings = drawn_road(chance, drawing, 20)[1]
            self.assertEqual(apart(drawing, drawings[-1]), [])
            self.assertEqual(apart(drawings[len(drawings) // 2], drawing), [])

    def test_answers_are_the_askers_own(self):
        for one, other, due in APART[:12]:
            fixed = told(other)
            check_own(self, lambda handed: apart(handed, fixed), told(one))
            check_own(self, lambda handed: apart(fixed, handed), told(one))
            self.assertEqual(fixed, told(other))


class Kept(unittest.TestCase):
    def test_no_answer_takes_long(self):
        great = banded_drawings(10, range(4, 9), [12], has_eight_strands) + greatest_drawings(4)
        great += banded_drawings(10, range(2, 6), [12], lambda one: turns(one) == [0])
        for one, other in zip(great, great[1:] + great[:1]):
            begun = time.process_time()
            apart(one, other)
            self.assertLess(time.process_time() - begun, 5)
            found = moves(one)
            if found:
                begun = time.process_time()
                is_road(one, other, found[:1] * 60), walked(one, found[:1])
                self.assertLess(time.process_time() - begun, 2)

    def test_weights_are_told_by_the_bands(self):
        # The texts of 28 have none for the weight: it hangs on the band sum.
        for one, other, due in APART:
            for scale in (0, 1):
                has = scale in scales_of(told(one)) and scale in scales_of(told(other))
                if has and f"bands {scale}" not in due:
                    self.assertEqual(weight(told(one), scale), weight(told(other), scale))


if __name__ == "__main__":
    unittest.main()
