"""What holds over the whole program: what no move changes."""

import random
import unittest

from bendfronts.bands import band_sum, bandings
from bendfronts.deeds import deed_of, deeds
from bendfronts.errors import NoMove, TooMany
from bendfronts.groups import marks
from bendfronts.leading import band_weight, weight
from bendfronts.moves import moved
from bendfronts.roads import apart, is_road
from bendfronts.settings import how_many, some_setting
from bendfronts.threads import turns, twists
from samples import (
    SAMPLES, all_moves, banded_drawings, drawn_road, greatest_drawings, has_eight_strands, scales_of, short_drawings, told,
)

# Drawings of one piece with several marks, with heights below 0, with one setting, with none; of several pieces.
STARTS = SAMPLES + (
    "b0 b2 b2 c3 c1 c1 c2 c2 c3 c1 c3 e0 e0 e0",
    "b0 b2 c1 c1 c1 c0 c2 c1 c1 e0 e0",
    "b0 b2 c1 c1 c2 c0 c2 c2 c1 c1 c1 e0 e0",
    "b0 b0 b0 c3 c1 c2 c2 c1 c3 c1 e2 c1 c0 c0 e1 e0",
    "b0 b2 c1 c0 c1 c2 c1 c2 e0 e0",
    "b0 c0 c0 e0",
    "b0 c0 e0 b0 e0",
    "b0 b1 b3 c0 c4 c2 c2 e3 c2 e1 e0",
)


def staying(drawing):
    """What no move changes, by its text; marks are left out where they are refused."""
    found = {"turns": sorted(turns(drawing)), "scales": scales_of(drawing)}
    if len(turns(drawing)) == 1:
        found["twists"] = twists(drawing)
    for scale in scales_of(drawing):
        found["bands", scale] = band_sum(drawing, scale)
        found["weight", scale] = weight(drawing, scale)
        found["band weight", scale] = band_weight(drawing, scale)
        try:
            found["marks", scale] = marks(drawing, scale)
        except TooMany:
            pass
    return found


class Moves(unittest.TestCase):
    def check(self, one, other, hint):
        """That what is told of both is the same; how many of the marks were looked at."""
        both = [key for key in one if key in other]
        for key in both:
            self.assertEqual(one[key], other[key], (key, hint))
        # Only marks may be told of one of them and not of the other one.
        lone = [key for key in list(one) + list(other) if key not in both]
        self.assertTrue(all(key[0] == "marks" for key in lone), (lone, hint))
        return sum(key[0] == "marks" for key in both)

    def test_behind_each_move(self):
        words, seen = {}, 0
        drawings = [told(text) for text in STARTS] + list(short_drawings(6))[::40] + banded_drawings(6, range(2, 5), range(4, 9))
        chance = random.Random(17)
        for drawing in drawings:
            ahead = staying(drawing)
            found = list(all_moves(drawing))
            for move in chance.sample(found, min(60, len(found))):
                try:
                    behind = moved(drawing, move)
                except NoMove:
                    continue
                seen += self.check(ahead, staying(behind), (drawing, move))
                words[move[0]] = words.get(move[0], 0) + 1
        self.assertGreater(min(words[word] for word in ("slide", "push", "curl")), 30)
        self.assertGreater(seen, 200)

    def test_along_roads(self):
        words, seen = {}, {0: 0, 1: 0}
        chance = random.Random(18)
        drawings = [told(text) for text in STARTS] * 2 + banded_drawings(10, range(2, 5), range(3, 9))
        drawings += banded_drawings(10, range(2, 5), range(3, 9), lambda one: scales_of(one) == (0, 1))
        for drawing in drawings:
            moves, drawings = drawn_road(chance, drawing, 15)
            ahead = staying(drawing)
            for at, (move, behind) in enumerate(zip(moves, drawings[1:])):
                words[move[0]] = words.get(move[0], 0) + 1
                if at % 3 == 2:
                    self.check(ahead, staying(behind), (drawing, moves[:at + 1]))
                    for scale in scales_of(behind):
                        seen[scale] += 1
        for word in ("slide", "three", "pull", "push", "curl", "uncurl"):
            self.assertGreater(words[word], 10, word)
        self.assertGreater(min(seen.values()), 60)

    def test_great_drawings(self):
        chance = random.Random(19)
        drawings = banded_drawings(6, range(4, 7), [10], has_eight_strands) + greatest_drawings(4)
        drawings += banded_drawings(6, range(2, 5), [10], lambda one: scales_of(one) == (0, 1))
        for drawing in drawings:
            moves, found = drawn_road(chance, drawing, 10)
            self.assertTrue(is_road(drawing, found[-1], moves))
            self.check(staying(drawing), staying(found[-1]), (drawing, moves))
            self.assertEqual(apart(drawing, found[-1]), [])

    def test_sixty_moves(self):
        chance = random.Random(20)
        for text in STARTS:
            moves, found = drawn_road(chance, told(text), 60)
            self.assertTrue(is_road(told(text), found[-1], moves))
            self.assertEqual(apart(told(text), found[-1]), [])


class Drawings(unittest.TestCase):
    def test_the_deed_done_twice_is_nought(self):
        for drawing in [told(text) for text in STARTS]:
            try:
                found = deeds(drawing)
            except TooMany:
                continue
            for deed in found:
                self.assertEqual(deed_of(drawing, deed), [])

    def test_a_setting_just_where_there_is_a_banding(self):
        both = {True: 0, False: 0}
        for drawing in [told(text) for text in STARTS] + list(short_drawings(6)) + greatest_drawings(10):
            for scale in scales_of(drawing):
                has = bandings(drawing, scale) != []
                self.assertEqual(some_setting(drawing, scale) is not None, has)
                self.assertEqual(how_many(drawing, scale) > 0, has)
                both[has] += 1
        self.assertGreater(min(both.values()), 20)


if __name__ == "__main__":
    unittest.main()
