import time
import unittest

from bendfronts import errors
from bendfronts.deeds import between, deeds
from bendfronts.drawings import names_of
from bendfronts.groups import groups, marks, straight
from bendfronts.heights import name_heights
from bendfronts.leading import setting_to, shift
from bendfronts.settings import how_many, settings, some_setting
from bendfronts.threads import turns, twists
from byhand import deeds_by_hand, groups_by_hand, straight_by_hand
from samples import (
    CURLED, EMPTY, EVEN_LINK, ODD_LINK, ROUND, SAMPLES, THREE_BIRTHS, TREFOIL, ZIGZAG,
    banded_drawings, check_own, greatest_drawings, has_eight_strands, scales_of, short_drawings, told,
)

# Drawings that do not have the scale 0.
FLAT = (EMPTY, ZIGZAG, ODD_LINK, EVEN_LINK, THREE_BIRTHS)

# Two drawings of as many turns and twists.
STEEP = "b0 b2 c1 c1 c1 c0 c2 c1 c1 e0 e0"
EVEN = "b0 b2 c1 c1 c1 c2 c2 e1 e0"

# Drawings with settings of unlike groups by the scale 0, and their marks by it.
UNLIKE = (
    ("b0 b2 b2 c3 c1 c1 c2 c2 c3 c1 c3 e0 e0 e0", [([(-1, 1), (0, 4), (1, 2)], 1, 1), ([(0, 2), (1, 1)], 3, 1)]),
    ("b0 b1 b3 c2 c4 c3 c3 c4 c0 c2 c2 c4 c2 e3 e1 e0",
     [([(-1, 1), (0, 2), (1, 2)], 3, 1), ([(-1, 2), (0, 4), (1, 3)], 1, 1)]),
    ("b0 b0 b0 c3 c1 c2 c2 c1 c3 c1 e2 c1 c0 c0 e1 e0",
     [([(-2, 1), (-1, 1), (0, 2), (1, 2), (2, 1)], 1, 1), ([(0, 2), (1, 1)], 3, -1)]),
)

# Between two strands there are sums of more than two hundred words.
WORDY = (
    "b0 b1 b2 c3 c1 c1 c1 c0 c1 c0 e2 e1 e0",
    "b0 b1 b1 c2 c2 e1 c0 c0 c0 c2 c0 c0 e1 e0",
    "b0 b2" + " c1" * 12 + " e0 e0",
)

# Drawings in whose deeds there are words in which a name stands so often.
OFTEN = (
    ("b0 b1 b1 c4 c2 e3 c2 c0 c2 e1 e0", 5, 2),
    ("b0 b1 c0 b1 c2 c0 c1 c1 e2 e1 e0", 8, 3),
    ("b0 b1 b3 c0 c4 c2 c2 e3 c2 e1 e0", 5, 3),
    ("b0 b1 b2 c4 c3 c3 c3 c4 e2 e1 e0", 5, 4),
)

# More than five hundred settings, by the scale told.
TOO_MANY = (
    ("b0 b2 c1 c1 c1 c2 c0 c2 c0 c2 c0 e1 e0", 1),
    ("b0 b1 b1 c4 c0 c2 c0 c3 c0 c3 c0 c3 c0 e2 c2 c0 e1 e0", 0),
    ("b0 b2" + " c1" * 11 + " e0 e0", 0),
    ("b0 b2" + " c1" * 12 + " e0 e0", 1),
    ("b0 e0 " * 9, 1),
)

NO_SETTINGS = (
    None, True, False, 0, 1, "", "0,0,1,0,0", (), (0, 0, 1, 0, 0), [], [0, 0, 0, 0, 0], [0, 0, 1, 0], [0, 0, 1, 0, 0, 0],
    [0, 0, True, 0, 0], [False, 0, 1, 0, 0], [0, 0, 1, 0, 2], [0, 0, -1, 0, 0], [0, 0, 1, 0, None], [0, 0, "1", 0, 0],
    [[0, 0, 1, 0, 0]], [0, 0, [1], 0, 0], [0, 0, (1,), 0, 0],
)


def one_piece(drawing):
    return turns(drawing) == [0]


def small_drawings():
    """Short drawings, and some that have settings."""
    drawings = list(short_drawings(6)) + banded_drawings(40, range(2, 5), range(2, 7))
    drawings += banded_drawings(30, range(2, 5), range(3, 8), one_piece) + [told(text) for text in SAMPLES]
    return drawings + [told(STEEP), told(EVEN)] + [told(text) for text, due in UNLIKE]


def every(step, drawing, scale):
    """Every so manyth setting; where there are too many any one."""
    if how_many(drawing, scale) <= 500:
        return settings(drawing, scale)[::step]
    return [some_setting(drawing, scale)]


def set_drawings():
    """Drawings of twelve crossings and of eight strands, with a scale and some settings by it."""
    drawings = banded_drawings(15, range(4, 9), [12], has_eight_strands) + banded_drawings(30, range(2, 6), [12], one_piece)
    for drawing in drawings + [told(text) for text in WORDY]:
        for scale in scales_of(drawing):
            yield drawing, scale, every(40, drawing, scale)


def refused(case, error, ask, *handed):
    with case.assertRaises(errors.FrontError) as caught:
        ask(*handed)
    case.assertIs(type(caught.exception), error, handed)


class Straight(unittest.TestCase):
    def test_the_empty_drawing(self):
        self.assertEqual(straight([], 1, []), [])

    def test_ordinary_settings(self):
        self.assertEqual(straight(told(ROUND), 0, [0]), [[]])
        self.assertEqual(straight(told(ROUND), 1, [1]), [[]])
        # The deeds of the ends are x2 + x4 + x2 x3 x4 and x2 + x4 + x4 x3 x2, and 1.
        for numbers, due in (
            ([0, 0, 1], [2, 4]), ([0, 1, 1], [4]), ([1, 0, 0], [2, 4]), ([1, 1, 0], [2]), ([1, 1, 1], [3]),
        ):
            self.assertEqual(straight(told(TREFOIL), 0, numbers + [0, 0]), [[], [], [], due, due])
            self.assertEqual(straight(told(TREFOIL), 1, numbers + [0, 1]), [[], [], [], due, due])

    def test_against_the_words_of_the_deed(self):
        seen = 0
        for drawing in small_drawings():
            words = deeds_by_hand(drawing)
            for scale in scales_of(drawing):
                for setting in every(5, drawing, scale):
                    if straight(drawing, scale, setting) != straight_by_hand(drawing, words, setting):
                        self.fail((drawing, scale, setting))
                    seen += 1
        self.assertGreater(seen, 200)

    def test_a_name_that_stands_often_in_a_word(self):
        for text, name, often in OFTEN:
            drawing = told(text)
            words = deeds(drawing)
            self.assertTrue(any(word.count(name) == often for deed in words for word in deed))
            for setting in settings(drawing, 1):
                self.assertEqual(straight(drawing, 1, setting), straight_by_hand(drawing, words, setting))

    def test_sums_of_more_than_two_hundred_words(self):
        for text in WORDY:
            drawing = told(text)
            with self.assertRaises(errors.TooMany):
                between(drawing)
            words = deeds_by_hand(drawing)
            setting = some_setting(drawing, 1)
            self.assertEqual(straight(drawing, 1, setting), straight_by_hand(drawing, words, setting))
        wordy = 0
        for drawing, scale, found in set_drawings():
            words = deeds_by_hand(drawing)
            for setting in found[:2]:
                if words is None:
                    wordy += 1
                else:
                    self.assertEqual(straight(drawing, scale, setting), straight_by_hand(drawing, words, setting))
                    wordy += max(len(deed) for deed in words) > 200
        self.assertGreater(wordy, 5)

    def test_done_twice_it_is_nought(self):
        seen = 0
        for drawing, scale, found in set_drawings():
            names = names_of(drawing)
            for setting in found:
                rows = dict(zip(names, straight(drawing, scale, setting)))
                for name in names:
                    twice = set()
                    for other in rows[name]:
                        twice ^= set(rows[other])
                    self.assertEqual(twice, set())
                    seen += len(rows[name])
        self.assertGreater(seen, 200)

    def test_it_lowers_heights_by_1_by_the_scale_0(self):
        seen = 0
        for drawing, scale, found in set_drawings():
            if scale == 0:
                heights = dict(zip(names_of(drawing), name_heights(drawing, 0)))
                for setting in found:
                    for name, row in zip(heights, straight(drawing, 0, setting)):
                        self.assertEqual(row, sorted(set(row)))
                        self.assertTrue(all(heights[other] == heights[name] - 1 for other in row))
                        seen += len(row)
        self.assertGreater(seen, 100)

    def test_what_is_no_setting_is_refused(self):
        for thing in NO_SETTINGS:
            for scale in (0, 1):
                for ask in (straight, groups):
                    with self.subTest(thing=thing, scale=scale, ask=ask.__name__):
                        refused(self, errors.NoSetting, ask, told(TREFOIL), scale, thing)
        for ask in (straight, groups):
            refused(self, errors.NoSetting, ask, told(ROUND), 0, [1])
            refused(self, errors.NoSetting, ask, told(ZIGZAG), 1, [0, 0])

    def test_no_heights_ahead_of_no_setting(self):
        for text in FLAT:
            for thing in NO_SETTINGS + tuple(settings(told(text), 1)):
                for ask in (straight, groups):
                    refused(self, errors.NoHeights, ask, told(text), 0, thing)


class Groups(unittest.TestCase):
    def test_the_empty_drawing(self):
        self.assertEqual(groups([], 1, []), [])

    def test_ordinary_settings(self):
        self.assertEqual(groups(told(ROUND), 0, [0]), [(1, 1)])
        self.assertEqual(groups(told(ROUND), 1, [0]), [(0, 1)])
        for setting in settings(told(TREFOIL), 0):
            self.assertEqual(groups(told(TREFOIL), 0, setting), [(0, 2), (1, 1)])
        for setting in settings(told(TREFOIL), 1):
            self.assertEqual(groups(told(TREFOIL), 1, setting), [(0, 3)])
        # 0 falls away.
        self.assertEqual(groups(told(CURLED), 0, [1, 0, 0]), [(1, 1)])

    def test_several_heights_and_such_below_0(self):
        self.assertEqual({str(groups(told(STEEP), 0, one)) for one in settings(told(STEEP), 0)},
                         {"[(-2, 1), (1, 1), (2, 1)]"})
        self.assertEqual({str(groups(told(EVEN), 0, one)) for one in settings(told(EVEN), 0)}, {"[(-1, 1), (1, 2)]"})
        for text, due in UNLIKE:
            drawing = told(text)
            found = {str(groups(drawing, 0, one)) for one in settings(drawing, 0)}
            self.assertEqual(found, {str(one) for one, odd, halves in due})

    def test_settings_with_1_and_without(self):
        drawing = told("b0 b1 c0 e1 e0")
        self.assertEqual(groups(drawing, 0, [1, 0, 0]), [(1, 1)])
        self.assertEqual(groups(told("b0 b2" + " c1" * 12 + " e0 e0"), 1, [0] * 14), [(0, 14)])
        self.assertEqual(groups(told("b0 b2" + " c1" * 12 + " e0 e0"), 1, [1] + [0] * 13), [(0, 12)])

    def test_against_the_words_of_the_deed(self):
        heights_seen, ones = set(), 0
        for drawing in small_drawings():
            words = deeds_by_hand(drawing)
            for scale in scales_of(drawing):
                heights = name_heights(drawing, scale)
                for setting in every(9, drawing, scale):
                    due = groups_by_hand(heights, straight_by_hand(drawing, words, setting), scale)
                    if groups(drawing, scale, setting) != due:
                        self.fail((drawing, scale, setting))
                    heights_seen |= {height for height, number in due}
                    ones += 1 in setting
        self.assertLessEqual({-2, -1, 0, 1, 2}, heights_seen)
        self.assertGreater(ones, 50)

    def test_great_drawings(self):
        for drawing, scale, found in set_drawings():
            for setting in found[:3]:
                due = groups_by_hand(name_heights(drawing, scale), straight(drawing, scale, setting), scale)
                self.assertEqual(groups(drawing, scale, setting), due)

    def test_they_come_to_the_twists(self):
        seen = 0
        drawings = [(drawing, 0, settings(drawing, 0)) for drawing in small_drawings() if one_piece(drawing)]
        for drawing, scale, found in drawings + list(set_drawings()):
            if scale == 0:
                for setting in found[:20]:
                    signed = [(-1) ** height * number for height, number in groups(drawing, 0, setting)]
                    self.assertEqual(sum(signed), twists(drawing))
                    seen += 1
        self.assertGreater(seen, 100)

    def test_as_many_at_a_height_as_at_the_contrary_one(self):
        seen = 0
        drawings = [(drawing, 0, settings(drawing, 0)) for drawing in small_drawings() if one_piece(drawing)]
        for drawing, scale, found in drawings + list(set_drawings()):
            if scale == 0:
                for setting in found[:20]:
                    at = dict(groups(drawing, 0, setting))
                    at[1] = at.get(1, 0) - 1
                    for height in at:
                        self.assertEqual(at[height], at.get(-height, 0))
                        seen += height != 0 and at[height] != 0
        self.assertGreater(seen, 20)


class Marks(unittest.TestCase):
    def check(self, text, scale, due):
        self.assertEqual(marks(told(text), scale), due)

    def test_no_setting(self):
        self.check(ZIGZAG, 1, [])
        self.check("b0 c0 c0 e0", 0, [])
        self.check("b0 c0 c0 e0", 1, [])

    def test_one_list_of_groups(self):
        self.check(EMPTY, 1, [([], 1, 0)])
        self.check(ROUND, 0, [([(1, 1)], 1, 1)])
        self.check(ROUND, 1, [([(0, 1)], 1, 1)])
        self.check(TREFOIL, 0, [([(0, 2), (1, 1)], 5, -1)])
        self.check(TREFOIL, 1, [([(0, 3)], 5, -1)])
        self.check(STEEP, 0, [([(-2, 1), (1, 1), (2, 1)], 1, 1)])

    def test_unlike_groups(self):
        for text, due in UNLIKE:
            self.check(text, 0, due)
        self.check(ODD_LINK, 1, [([(0, 2)], 1, 2), ([(0, 4)], 1, 0)])

    def test_out_of_the_groups_of_all_settings(self):
        several = 0
        for drawing in small_drawings():
            for scale in scales_of(drawing):
                if how_many(drawing, scale) > 200:
                    continue
                found = [groups(drawing, scale, setting) for setting in settings(drawing, scale)]
                due = []
                for one in found:
                    if one not in [mark[0] for mark in due]:
                        odd, twos = found.count(one), 0
                        while odd % 2 == 0:
                            odd, twos = odd // 2, twos + 1
                        due.append((one, odd, 2 * twos - shift(drawing, scale)))
                self.assertEqual(marks(drawing, scale), sorted(due))
                several += len(due) > 1
        self.assertGreater(several, 10)

    def test_up_to_five_hundred_settings(self):
        for text, scale, many in (
            ("b0 b2 c1 c1 c1 c1 c1 e2 b2 c1 c1 c1 c1 c1 e2 e0", 0, 441),
            ("b0 b1 c2 c1 c1 c1 c1 e2 b1 c2 c1 c1 c1 c1 e2 b2 c1 c1 c1 e2 e0", 0, 500),
        ):
            self.assertEqual(how_many(told(text), scale), many)
            less = shift(told(text), scale)
            total = sum(odd * 2 ** ((halves + less) // 2) for one, odd, halves in marks(told(text), scale))
            self.assertEqual(total, many)

    def test_more_than_five_hundred_settings(self):
        for text, scale in TOO_MANY:
            with self.subTest(text=text, scale=scale):
                refused(self, errors.TooMany, marks, told(text), scale)

    def test_no_heights_ahead_of_too_many(self):
        for text, scale in TOO_MANY:
            if scale == 1 and not one_piece(told(text)):
                refused(self, errors.NoHeights, marks, told(text), 0)
        for text in FLAT:
            refused(self, errors.NoHeights, marks, told(text), 0)


class Kept(unittest.TestCase):
    def test_kinds_of_the_answers(self):
        for drawing, scale in ((told(TREFOIL), 0), (told(TREFOIL), 1), (told(UNLIKE[0][0]), 0)):
            setting = some_setting(drawing, scale)
            self.assertEqual({type(name) for row in straight(drawing, scale, setting) for name in row}, {int})
            for one in groups(drawing, scale, setting):
                self.assertEqual([type(one), type(one[0]), type(one[1])], [tuple, int, int])
            for one in marks(drawing, scale):
                self.assertEqual([type(one), type(one[0]), type(one[1]), type(one[2])], [tuple, list, int, int])
                self.assertEqual({type(pair) for pair in one[0]}, {tuple})

    def test_answers_are_the_askers_own(self):
        for text in SAMPLES + (UNLIKE[0][0],):
            drawing = told(text)
            for scale in scales_of(drawing):
                check_own(self, lambda handed: marks(handed, scale), drawing)
                for setting in settings(drawing, scale)[:3]:
                    for ask in (straight, groups):
                        check_own(self, lambda handed: ask(drawing, scale, handed), setting, list(setting))
                        kept = list(setting)
                        check_own(self, lambda handed: ask(handed, scale, kept), drawing, list(drawing))
                        self.assertEqual(kept, setting)
                self.assertEqual(drawing, told(text))

    def test_no_answer_takes_long(self):
        drawings = banded_drawings(30, range(4, 9), [12], has_eight_strands) + greatest_drawings(10)
        drawings += banded_drawings(15, range(4, 9), [12], lambda one: has_eight_strands(one) and one_piece(one))
        for drawing in drawings + [told(text) for text in WORDY] + [told(text) for text, scale in TOO_MANY]:
            for scale in scales_of(drawing):
                begun = time.process_time()
                setting = some_setting(drawing, scale)
                if setting is not None:
                    straight(drawing, scale, setting), groups(drawing, scale, setting)
                if how_many(drawing, scale) <= 500:
                    marks(drawing, scale)
                self.assertLess(time.process_time() - begun, 5)

    def test_a_setting_that_leads_to_a_banding_has_groups(self):
        drawing = told(TREFOIL)
        for banding in ([2], [4], [2, 3, 4]):
            self.assertEqual(groups(drawing, 0, setting_to(drawing, 0, banding)), [(0, 2), (1, 1)])


if __name__ == "__main__":
    unittest.main()
