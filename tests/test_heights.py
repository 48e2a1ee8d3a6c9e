import unittest

from bendfronts import errors
from bendfronts.drawings import names_of
from bendfronts.heights import name_heights, thread_heights
from bendfronts.threads import pieces, threads, turns
from samples import (
    B, C, CURLED, E, EMPTY, EVEN_LINK, ODD_LINK, ROUND, SAMPLES, THREE_BIRTHS, TREFOIL, ZIGZAG,
    check_own, greatest_drawings, short_drawings, told,
)

# Drawings of one piece, turns 0, with the heights of their threads and of their names by the scale 0.
HIGH = (
    (ROUND, [1, 0], [1]),
    (TREFOIL, [1, 0, 0, -1], [0, 0, 0, 1, 1]),
    (CURLED, [1, 0, 2, 1], [0, 1, 1]),
    ("b0 b1 c0 e1 e0", [1, 0, 1, 0], [0, 1, 1]),
    ("b0 b1 e0 b0 e1 e0", [1, 0, 0, -1, 1, 0], [1, 1, 1]),
    ("b0 b1 c2 c1 c1 c1 c1 e0 e0", [1, 0, 0, -1], [-1, 0, 0, 0, 0, 1, 1]),
    ("b0 b2 c1 c1 c1 c1 c0 e1 e0", [1, 0, 0, -1], [0, 0, 0, 0, 1, 1, 1]),
    ("b0 c0 c0 e0", [1, 0], [1, -1, 1]),
    ("b0 b2 b4 c1 c3 c2 c3 c4 c4 c3 c2 e0 e0 e0", [1, 0, 0, -1, -1, -2], [0, 0, 1, 1, 2, -2, -1, -1, 1, 1, 1]),
)

# Drawings that do not have the scale 0, for each reason.
FLAT = (
    EMPTY,
    ZIGZAG,
    "b0 c0 e0",
    "b0 b1 e0 b1 e0 e0",
    ODD_LINK,
    EVEN_LINK,
    THREE_BIRTHS,
    "b0 e0 b0 e0",
    "b0 e0 b0 c0 e0",
    "b0 b1 e0 e0 b0 b1 e2 e0",
)


def has_scale_0(drawing):
    return turns(drawing) == [0]


def births_and_ends(drawing):
    """The pairs (upper, lower) of threads that are born or end together."""
    found = []
    for t, (kind, k) in enumerate(drawing):
        if kind != C:
            row = threads(drawing)[t + 1 if kind == B else t]
            found.append((row[k], row[k + 1]))
    return found


def heights_by_hand(drawing):
    """The heights by the scale 0: from thread 1 on, across births and ends, till nothing new comes."""
    pairs = births_and_ends(drawing)
    found = {1: 0}
    for turn in range(2 * len(pairs)):
        for upper, lower in pairs:
            if lower in found:
                found.setdefault(upper, found[lower] + 1)
            if upper in found:
                found.setdefault(lower, found[upper] - 1)
    return [found[thread] for thread in range(len(pairs))]


class ScaleZero(unittest.TestCase):
    def test_heights_of_threads(self):
        for text, due, names in HIGH:
            with self.subTest(text):
                self.assertEqual(thread_heights(told(text), 0), due)

    def test_heights_of_names(self):
        for text, thread_due, due in HIGH:
            with self.subTest(text):
                self.assertEqual(name_heights(told(text), 0), due)

    def test_the_upper_one_is_one_more_at_births_and_at_ends(self):
        drawings = [drawing for drawing in short_drawings(7) if has_scale_0(drawing)]
        for drawing in drawings + greatest_drawings(60, has_scale_0):
            heights = thread_heights(drawing, 0)
            pairs = births_and_ends(drawing)
            if heights[1] != 0 or not all(heights[upper] == heights[lower] + 1 for upper, lower in pairs):
                self.fail(drawing)

    def test_heights_of_short_and_of_the_greatest_drawings(self):
        drawings = [drawing for drawing in short_drawings(7) if has_scale_0(drawing)]
        for drawing in drawings + greatest_drawings(60, has_scale_0):
            heights = heights_by_hand(drawing)
            names = []
            for t in names_of(drawing):
                kind, k = drawing[t]
                row = threads(drawing)[t]
                names.append(1 if kind == E else heights[row[k]] - heights[row[k + 1]])
            if thread_heights(drawing, 0) != heights or name_heights(drawing, 0) != names:
                self.fail(drawing)

    def test_crossings_above_and_below_0_come(self):
        seen = set()
        for drawing in greatest_drawings(60, has_scale_0):
            seen.update(name_heights(drawing, 0))
        self.assertLessEqual({-2, -1, 0, 1, 2}, seen)

    def test_refused_where_there_is_not_one_piece_with_turns_0(self):
        for text in FLAT:
            for ask in (thread_heights, name_heights):
                with self.subTest(ask=ask.__name__, text=text):
                    with self.assertRaises(errors.NoHeights):
                        ask(told(text), 0)

    def test_had_just_where_there_is_one_piece_with_turns_0(self):
        for drawing in list(short_drawings(6)) + greatest_drawings(100):
            due = set(pieces(drawing)) == {0} and turns(drawing)[0] == 0
            for ask in (thread_heights, name_heights):
                try:
                    ask(drawing, 0)
                    had = True
                except errors.NoHeights:
                    had = False
                if had is not due:
                    self.fail(drawing)

    def test_which_refusal_it_is(self):
        for ask in (thread_heights, name_heights):
            for text in (EMPTY, ZIGZAG, ODD_LINK):
                with self.assertRaises(errors.FrontError) as caught:
                    ask(told(text), 0)
                self.assertIs(type(caught.exception), errors.NoHeights)
                self.assertIsInstance(caught.exception, ValueError)


class ScaleOne(unittest.TestCase):
    def test_all_heights_are_0(self):
        for text in SAMPLES + FLAT + tuple(text for text, heights, names in HIGH):
            drawing = told(text)
            births = [kind for kind, k in drawing].count(B)
            with self.subTest(text):
                self.assertEqual(thread_heights(drawing, 1), [0] * (2 * births))
                self.assertEqual(name_heights(drawing, 1), [0] * (len(drawing) - births))

    def test_the_empty_drawing(self):
        self.assertEqual(thread_heights([], 1), [])
        self.assertEqual(name_heights([], 1), [])

    def test_the_greatest_drawings(self):
        for drawing in greatest_drawings(30):
            self.assertEqual(set(thread_heights(drawing, 1)), {0})
            self.assertEqual(name_heights(drawing, 1), [0] * len(names_of(drawing)))


class Kept(unittest.TestCase):
    def test_kinds_of_the_answers(self):
        for ask in (thread_heights, name_heights):
            for scale in (0, 1):
                answer = ask(told(TREFOIL), scale)
                self.assertIs(type(answer), list)
                self.assertEqual({type(one) for one in answer}, {int})

    def test_answers_are_the_askers_own(self):
        for ask in (thread_heights, name_heights):
            for text, heights, names in HIGH:
                for scale in (0, 1):
                    with self.subTest(ask=ask.__name__, text=text, scale=scale):
                        check_own(self, lambda drawing: ask(drawing, scale), told(text))
            for text in FLAT:
                check_own(self, lambda drawing: ask(drawing, 1), told(text))

    def test_a_refusal_changes_nothing(self):
        for text in FLAT:
            handed = told(text)
            with self.assertRaises(errors.NoHeights):
                thread_heights(handed, 0)
            self.assertEqual(handed, told(text))

    def test_beyond_the_bounds_nothing_else_is_refused(self):
        long = told("b0" + " c0 c0" * 20 + " e0")
        self.assertEqual(thread_heights(long, 0), [1, 0])
        self.assertEqual(name_heights(long, 0), [1, -1] * 20 + [1])
        self.assertEqual(name_heights(long, 1), [0] * 41)


if __name__ == "__main__":
    unittest.main()
