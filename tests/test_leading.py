import time
import unittest
from fractions import Fraction

from bendfronts import errors
from bendfronts.bands import band_sum, bandings, is_banding, loose, partners_of
from bendfronts.drawings import ends_of
from bendfronts.heights import name_heights
from bendfronts.leading import band_weight, banding_of, many_to, setting_to, shift, weight
from bendfronts.settings import how_many, is_setting, settings, some_setting, tables_of
from bendfronts.tables import table_partners
from bendfronts.threads import turns
from byhand import settings_by_hand
from samples import (
    CURLED, EMPTY, EVEN_LINK, ODD_LINK, ROUND, SAMPLES, THREE_BIRTHS, TREFOIL, ZIGZAG,
    banded_drawings, check_own, greatest_drawings, has_eight_strands, scales_of, short_drawings, told,
)

# Drawings with many bandings and settings: of two braided pairs, and of six and eight strands.
MANY = (
    "b0 b2" + " c1" * 12 + " e0 e0",
    "b0 b2" + " c1" * 11 + " e0 e0",
    "b0 b2 b4 c1 c3 c1 c3 c1 c3 c1 c3 c1 c3 c1 c3 e0 e0 e0",
    "b0 b2 b4 b6 c1 c3 c5 c1 c3 c5 c1 c3 c5 c1 c3 c5 e0 e0 e0 e0",
    "b0 b1 b2 b3 c0 c2 c4 c6 c1 c3 c5 c0 c2 c4 c6 c3 e3 e2 e1 e0",
    "b0 e0 " * 6 + "b0 b2" + " c1" * 12 + " e0 e0",
)

# Drawings that do not have the scale 0.
FLAT = (EMPTY, ZIGZAG, ODD_LINK, EVEN_LINK, THREE_BIRTHS)

# Its crossings have the heights -2, -1, 0, 1, 2.
STEEP = "b0 b2 b4 c1 c3 c2 c3 c4 c4 c3 c2 e0 e0 e0"

NO_SETTINGS = (
    None, True, False, 0, 1, "", "0,0,1,0,0", (), (0, 0, 1, 0, 0), [], [0, 0, 0, 0, 0], [0, 0, 1, 0], [0, 0, 1, 0, 0, 0],
    [0, 0, True, 0, 0], [False, 0, 1, 0, 0], [0, 0, 1, 0, 2], [0, 0, -1, 0, 0], [0, 0, 1, 0, None], [0, 0, "1", 0, 0],
    [[0, 0, 1, 0, 0]], [0, 0, [1], 0, 0], [0, 0, (1,), 0, 0], [0, 0, 10 ** 59, 0, 0],
)
NO_BANDINGS = (
    None, True, False, 0, 2, "", "2", (), (2,), (2, 3, 4), [], [3], [2, 3], [2, 4], [4, 2], [2, 2], [True], [None],
    [[2]], [(2,)], ["2"], [2, 3, 4, 5], [2, 3, 4, 4], [-1], [2, 10 ** 59],
)


def one_piece(drawing):
    return turns(drawing) == [0]


def small_drawings():
    """Short drawings, and some that have settings; all small enough to go through all lists of numbers."""
    return list(short_drawings(6)) + banded_drawings(60, range(2, 5), range(2, 6)) + [told(text) for text in SAMPLES]


def great_drawings():
    """Drawings of twelve crossings, of eight strands, with the scale 0 and without."""
    found = banded_drawings(15, range(4, 9), [12], has_eight_strands)
    found += banded_drawings(15, range(4, 9), [12], lambda one: has_eight_strands(one) and one_piece(one))
    return found + banded_drawings(15, range(2, 4), [12], one_piece)


def refused(case, error, ask, *handed):
    with case.assertRaises(errors.FrontError) as caught:
        ask(*handed)
    case.assertIs(type(caught.exception), error, handed)


class BandingOf(unittest.TestCase):
    def test_the_empty_drawing(self):
        self.assertEqual(banding_of([], 1, []), [])

    def test_ordinary_settings(self):
        for scale, ends in ((0, [0, 0]), (1, [0, 0]), (1, [0, 1]), (1, [1, 1])):
            for numbers, due in (
                ([0, 0, 1], [4]), ([0, 1, 1], [4]), ([1, 0, 0], [2, 3, 4]), ([1, 1, 0], [2]), ([1, 1, 1], [2]),
            ):
                self.assertEqual(banding_of(told(TREFOIL), scale, numbers + ends), due)
        self.assertEqual(banding_of(told(ROUND), 0, [0]), [])
        self.assertEqual(banding_of(told(ROUND), 1, [1]), [])
        self.assertEqual(banding_of(told(CURLED), 0, [1, 0, 0]), [2])
        self.assertEqual(banding_of(told(ODD_LINK), 1, [0, 0, 0, 0]), [])
        self.assertEqual(banding_of(told(ODD_LINK), 1, [0, 1, 0, 0]), [])
        self.assertEqual(banding_of(told(ODD_LINK), 1, [1, 0, 0, 0]), [2, 3])

    def test_its_partners_are_those_of_the_tables(self):
        for drawing in small_drawings():
            for scale in scales_of(drawing):
                for setting in settings(drawing, scale)[::3]:
                    found = banding_of(drawing, scale, setting)
                    due = [table_partners(table) for table in tables_of(drawing, scale, setting)]
                    if not is_banding(drawing, scale, found) or partners_of(drawing, scale, found) != due:
                        self.fail((drawing, scale, setting))

    def test_great_drawings(self):
        seen = 0
        for drawing in great_drawings() + greatest_drawings(10):
            for scale in scales_of(drawing):
                setting = some_setting(drawing, scale)
                if setting is not None:
                    found = banding_of(drawing, scale, setting)
                    due = [table_partners(table) for table in tables_of(drawing, scale, setting)]
                    self.assertEqual(partners_of(drawing, scale, found), due)
                    seen += 1
        self.assertGreater(seen, 50)

    def test_what_is_no_setting_is_refused(self):
        for thing in NO_SETTINGS:
            for scale in (0, 1):
                with self.subTest(thing=thing, scale=scale):
                    refused(self, errors.NoSetting, banding_of, told(TREFOIL), scale, thing)
        # 1 at an end is for the scale 1 alone.
        refused(self, errors.NoSetting, banding_of, told(ROUND), 0, [1])
        refused(self, errors.NoSetting, banding_of, told(ZIGZAG), 1, [0, 0])

    def test_no_heights_ahead_of_no_setting(self):
        for text in FLAT:
            for thing in NO_SETTINGS + tuple(settings(told(text), 1)):
                refused(self, errors.NoHeights, banding_of, told(text), 0, thing)


class SettingTo(unittest.TestCase):
    def check(self, drawing, scale, banding):
        found = setting_to(drawing, scale, banding)
        if not is_setting(drawing, scale, found) or banding_of(drawing, scale, found) != banding:
            self.fail((drawing, scale, banding, found))

    def test_the_empty_drawing(self):
        self.assertEqual(setting_to([], 1, []), [])

    def test_ordinary_bandings(self):
        for scale in (0, 1):
            for banding in ([2], [4], [2, 3, 4]):
                self.check(told(TREFOIL), scale, banding)
        self.assertEqual(setting_to(told(TREFOIL), 0, [2, 3, 4]), [1, 0, 0, 0, 0])
        self.assertEqual(setting_to(told(ROUND), 0, []), [0])
        self.assertIn(setting_to(told(ROUND), 1, []), ([0], [1]))

    def test_every_banding_of_small_drawings(self):
        for drawing in small_drawings():
            for scale in scales_of(drawing):
                for banding in bandings(drawing, scale):
                    self.check(drawing, scale, banding)

    def test_every_banding_of_drawings_with_many(self):
        most = 0
        for text in MANY:
            drawing = told(text)
            for scale in scales_of(drawing):
                found = bandings(drawing, scale)
                for banding in found:
                    self.check(drawing, scale, banding)
                most = max(most, len(found))
        self.assertGreaterEqual(most, 233)

    def test_great_drawings(self):
        seen = 0
        for drawing in great_drawings():
            for scale in scales_of(drawing):
                for banding in bandings(drawing, scale)[:12]:
                    self.check(drawing, scale, banding)
                    seen += 1
        self.assertGreater(seen, 200)

    def test_what_is_no_banding_is_refused(self):
        for thing in NO_BANDINGS:
            for scale in (0, 1):
                for ask in (setting_to, many_to):
                    with self.subTest(thing=thing, scale=scale, ask=ask.__name__):
                        refused(self, errors.NoBanding, ask, told(TREFOIL), scale, thing)
        # Changed at a crossing of another height than 0: a banding by the scale 1 alone.
        more = told("b0 b2 c1 c1 c1 c2 c2 e1 e0")
        self.assertTrue(is_banding(more, 1, [2, 3, 6]))
        for ask in (setting_to, many_to):
            refused(self, errors.NoBanding, ask, more, 0, [2, 3, 6])
            refused(self, errors.NoBanding, ask, told(ZIGZAG), 1, [])

    def test_no_heights_ahead_of_no_banding(self):
        for text in FLAT:
            for thing in NO_BANDINGS + tuple(bandings(told(text), 1)):
                for ask in (setting_to, many_to):
                    refused(self, errors.NoHeights, ask, told(text), 0, thing)


class ManyTo(unittest.TestCase):
    def test_ordinary_bandings(self):
        self.assertEqual(many_to([], 1, []), 1)
        self.assertEqual(many_to(told(ROUND), 0, []), 1)
        self.assertEqual(many_to(told(ROUND), 1, []), 2)
        self.assertEqual([many_to(told(TREFOIL), 0, one) for one in ([2], [4], [2, 3, 4])], [2, 2, 1])
        self.assertEqual([many_to(told(TREFOIL), 1, one) for one in ([2], [4], [2, 3, 4])], [8, 8, 4])
        self.assertEqual(many_to(told("b0 e0 " * 8), 1, []), 256)

    def test_each_setting_of_small_drawings(self):
        seen = 0
        for drawing in small_drawings():
            for scale in scales_of(drawing):
                counts = {}
                for setting in settings_by_hand(drawing, name_heights(drawing, scale)):
                    banding = tuple(banding_of(drawing, scale, setting))
                    counts[banding] = counts.get(banding, 0) + 1
                # There is a setting just where there is a banding, and some lead to each one.
                self.assertEqual(sorted(counts), [tuple(one) for one in bandings(drawing, scale)])
                for banding, count in counts.items():
                    self.assertEqual(many_to(drawing, scale, list(banding)), count, (drawing, scale, banding))
                    seen += 1
        self.assertGreater(seen, 100)

    def test_two_as_often_as_it_is_loose(self):
        for drawing in great_drawings():
            for scale in scales_of(drawing):
                total = 0
                for banding in bandings(drawing, scale):
                    often = len(loose(drawing, scale, banding)) + scale * len(ends_of(drawing))
                    self.assertEqual(many_to(drawing, scale, banding), 2 ** often)
                    total += 2 ** often
                self.assertEqual(how_many(drawing, scale), total)

    def test_each_setting_of_great_drawings(self):
        seen = 0
        for drawing in great_drawings():
            if scales_of(drawing) == (0, 1) and how_many(drawing, 0) <= 500:
                counts = {}
                for setting in settings(drawing, 0):
                    banding = tuple(banding_of(drawing, 0, setting))
                    counts[banding] = counts.get(banding, 0) + 1
                due = {tuple(one): many_to(drawing, 0, one) for one in bandings(drawing, 0)}
                self.assertEqual(counts, due)
                seen += 1
        self.assertGreater(seen, 15)


class Shift(unittest.TestCase):
    def test_by_the_scale_1(self):
        self.assertEqual(shift([], 1), 0)
        self.assertEqual(shift(told(ROUND), 1), 1)
        self.assertEqual(shift(told(TREFOIL), 1), 5)
        self.assertEqual(shift(told(STEEP), 1), 11)

    def test_by_the_scale_0(self):
        self.assertEqual(shift(told(ROUND), 0), -1)
        self.assertEqual(shift(told(TREFOIL), 0), 1)
        # Heights 0, 1, 1 and 1, -1, 1.
        self.assertEqual(shift(told(CURLED), 0), -1)
        self.assertEqual(shift(told("b0 c0 c0 e0"), 0), -1)

    def test_heights_even_and_odd_from_0_on_and_below_0(self):
        self.assertEqual(name_heights(told(STEEP), 0), [0, 0, 1, 1, 2, -2, -1, -1, 1, 1, 1])
        self.assertEqual(shift(told(STEEP), 0), 2 - 2 + 1 - 1 + 2 - 3)
        seen = set()
        for drawing in greatest_drawings(30, one_piece) + banded_drawings(30, range(2, 6), range(3, 12), one_piece):
            due = 0
            for height in name_heights(drawing, 0):
                due += (1 if height % 2 == 0 else -1) * (1 if height >= 0 else -1)
                seen.add(height)
            self.assertEqual(shift(drawing, 0), due)
        self.assertLessEqual({-4, -3, -2, -1, 0, 1, 2, 3}, seen)

    def test_refused_without_the_scale(self):
        for text in FLAT:
            for ask in (shift, weight, band_weight):
                refused(self, errors.NoHeights, ask, told(text), 0)


class Weights(unittest.TestCase):
    def both(self, text, scale, due):
        self.assertEqual(weight(told(text), scale), due)
        self.assertEqual(band_weight(told(text), scale), due)

    def test_ordinary_drawings(self):
        self.both(EMPTY, 1, (1, 0))
        self.both(ROUND, 0, (1, 1))
        self.both(ROUND, 1, (1, 1))
        self.both("b0 e0 " * 8, 1, (1, 8))
        self.both(TREFOIL, 0, (5, -1))
        self.both(TREFOIL, 1, (5, -1))
        self.both(CURLED, 0, (1, 1))
        self.both(ODD_LINK, 1, (3, 0))

    def test_powers_below_0(self):
        self.both("b0 b2" + " c1" * 11 + " e0 e0", 0, (1365, -9))
        self.both("b0 b2" + " c1" * 12 + " e0 e0", 1, (2731, -10))

    def test_no_setting(self):
        self.both(ZIGZAG, 1, (0, 0))
        self.both("b0 c0 e0", 1, (0, 0))
        self.both("b0 c0 c0 e0", 0, (0, 0))
        self.both("b0 c0 c0 e0", 1, (0, 0))

    def test_out_of_their_parts(self):
        evens = 0
        for drawing in small_drawings() + great_drawings():
            for scale in scales_of(drawing):
                many, taken = how_many(drawing, scale), shift(drawing, scale)
                odd, halves = weight(drawing, scale)
                if many == 0:
                    self.assertEqual((odd, halves), (0, 0))
                else:
                    self.assertEqual(odd % 2, 1)
                    self.assertEqual((halves + taken) % 2, 0)
                    self.assertEqual(odd * 2 ** ((halves + taken) // 2), many)
                    evens += many % 2 == 0
        self.assertGreater(evens, 50)

    def test_out_of_the_band_sum(self):
        lone, several = 0, 0
        for drawing in small_drawings() + great_drawings():
            for scale in scales_of(drawing):
                bands = band_sum(drawing, scale)
                odd, halves = band_weight(drawing, scale)
                # The powers are all even or all odd, so that halves goes out evenly with each of them.
                self.assertTrue(all((halves + power) % 2 == 0 for power, number in bands))
                total = sum(number * Fraction(2) ** ((-halves - power) // 2) for power, number in bands)
                self.assertEqual(total, odd)
                self.assertTrue(odd % 2 == 1 or (odd, halves) == (0, 0))
                lone, several = lone + (len(bands) == 1), several + (len(bands) > 1)
        self.assertGreater(min(lone, several), 20)

    def test_both_are_the_same(self):
        seen = {0: 0, 1: 0}
        drawings = small_drawings() + great_drawings() + greatest_drawings(20) + [told(text) for text in MANY]
        for drawing in drawings + banded_drawings(150, range(2, 9), range(3, 13)):
            for scale in scales_of(drawing):
                found = weight(drawing, scale)
                if band_weight(drawing, scale) != found:
                    self.fail((drawing, scale))
                seen[scale] += found != (0, 0)
        self.assertGreater(min(seen.values()), 60)


class Kept(unittest.TestCase):
    def test_kinds_of_the_answers(self):
        for scale in (0, 1):
            drawing = told(TREFOIL)
            for one in (weight(drawing, scale), band_weight(drawing, scale)):
                self.assertEqual([type(one), len(one), type(one[0]), type(one[1])], [tuple, 2, int, int])
            for one in (shift(drawing, scale), many_to(drawing, scale, [2])):
                self.assertIs(type(one), int)
            self.assertEqual({type(number) for number in setting_to(drawing, scale, [2])}, {int})
            self.assertEqual({type(number) for number in banding_of(drawing, scale, [1, 1, 1, 0, 0])}, {int})

    def test_answers_are_the_askers_own(self):
        for text in (EMPTY, ROUND, TREFOIL, CURLED, ODD_LINK):
            drawing = told(text)
            for scale in scales_of(drawing):
                for setting in settings(drawing, scale)[:4]:
                    check_own(self, lambda handed: banding_of(drawing, scale, handed), setting, list(setting))
                    kept = list(setting)
                    check_own(self, lambda handed: banding_of(handed, scale, kept), drawing, list(drawing))
                    self.assertEqual(kept, setting)
                for banding in bandings(drawing, scale):
                    check_own(self, lambda handed: many_to(drawing, scale, handed), banding, list(banding))
                    handed = list(banding)
                    first, second = setting_to(drawing, scale, handed), setting_to(drawing, scale, handed)
                    kept = list(second)
                    first.append("mine")
                    self.assertEqual((handed, second), (banding, kept))
                    self.assertEqual(banding_of(drawing, scale, setting_to(drawing, scale, handed)), banding)
                self.assertEqual(drawing, told(text))

    def test_no_answer_takes_long(self):
        for drawing in great_drawings() + [told(text) for text in MANY]:
            for scale in scales_of(drawing):
                found = bandings(drawing, scale)
                begun = time.process_time()
                for banding in found[:2] + found[-2:]:
                    banding_of(drawing, scale, setting_to(drawing, scale, banding))
                    many_to(drawing, scale, banding)
                weight(drawing, scale), band_weight(drawing, scale), shift(drawing, scale)
                self.assertLess(time.process_time() - begun, 5)


if __name__ == "__main__":
    unittest.main()
