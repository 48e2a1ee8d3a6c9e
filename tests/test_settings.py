import itertools
import random
import time
import unittest

from bendfronts import errors
from bendfronts.bands import bandings, loose, partners_of
from bendfronts.deeds import between
from bendfronts.drawings import crossings_of, ends_of, names_of, strands
from bendfronts.heights import name_heights
from bendfronts.settings import how_many, is_setting, settings, some_setting, tables_of
from bendfronts.tables import is_table, table_partners
from bendfronts.threads import turns
from byhand import put_out, settings_by_hand
from samples import (
    CURLED, EMPTY, EVEN_LINK, ODD_LINK, ROUND, SAMPLES, THREE_BIRTHS, TREFOIL, ZIGZAG,
    banded_drawings, check_own, greatest_drawings, has_eight_strands, scales_of, short_drawings, told,
)

# Drawings, a scale, and how many settings there are by it.
COUNTED = (
    (EMPTY, 1, 1),
    (ROUND, 0, 1),
    (ROUND, 1, 2),
    ("b0 e0 " * 8, 1, 256),
    (TREFOIL, 0, 5),
    (TREFOIL, 1, 20),
    (CURLED, 0, 1),
    (ODD_LINK, 1, 12),
    (ZIGZAG, 1, 0),
    ("b0 c0 e0", 1, 0),
    ("b0 c0 c0 e0", 0, 0),
    ("b0 b2" + " c1" * 11 + " e0 e0", 0, 1365),
    ("b0 b2" + " c1" * 12 + " e0 e0", 1, 2731 * 4),
    ("b0 b1 c0 c0 c0 c0 c0 c0 e1 e0 b0 e0", 1, 43 * 8),
    ("b0 b2 c1 c1 c1 c1 c1 e2 b2 c1 c1 c1 c1 c1 e2 e0", 0, 21 * 21),
    ("b0 b2 c1 c1 c1 e2 b2 c1 c1 c1 e2 b2 c1 c1 c1 e2 e0", 0, 125),
    ("b0 b1 c2 c1 c1 c1 c1 e2 b2 c1 c1 c1 e2 b2 c1 c1 c1 e2 e0", 0, 250),
    # Twelve crossings and eight ends. Two taken twenty times is not reached so: where all crossings but the last one
    # are changed, the last one kept leads to no banding.
    ("b0 e0 " * 6 + "b0 b2" + " c1" * 12 + " e0 e0", 1, 2731 * 256),
)

# Below and above the bound of five hundred; the one with just five hundred has thirteen crossings, the ones with 512 and
# with two taken twenty times more than eight births.
JUST_ENOUGH = (
    ("b0 b1 c0 c0 c0 c0 c0 c0 e1 e0 b0 e0", 1, 344),
    ("b0 b2 c1 c1 c1 c1 c1 e2 b2 c1 c1 c1 c1 c1 e2 e0", 0, 441),
    ("b0 b1 c2 c1 c1 c1 c1 e2 b1 c2 c1 c1 c1 c1 e2 b2 c1 c1 c1 e2 e0", 0, 500),
)
TOO_MANY = (
    ("b0 b2 c1 c1 c1 c2 c0 c2 c0 c2 c0 e1 e0", 1, 504),
    ("b0 b1 b1 c4 c0 c2 c0 c3 c0 c3 c0 c3 c0 e2 c2 c0 e1 e0", 0, 510),
    ("b0 e0 " * 9, 1, 512),
    ("b0 b2" + " c1" * 12 + " e0 e0", 1, 10924),
    ("b0 e0 " * 20, 1, 2 ** 20),
)


def small_drawings():
    """Short drawings, and some that have settings; all small enough to go through all lists of numbers."""
    return list(short_drawings(6)) + banded_drawings(60, range(2, 5), range(2, 6)) + [told(text) for text in SAMPLES]


class IsSetting(unittest.TestCase):
    def yes(self, text, scale, thing):
        self.assertIs(is_setting(told(text), scale, thing), True, thing)

    def no(self, text, scale, thing):
        self.assertIs(is_setting(told(text), scale, thing), False, thing)

    def test_the_empty_drawing(self):
        self.yes(EMPTY, 1, [])
        self.no(EMPTY, 1, [0])

    def test_ordinary_settings(self):
        self.yes(ROUND, 0, [0])
        self.yes(ROUND, 1, [0])
        self.yes(ROUND, 1, [1])
        # x2 + x4 + x2 x3 x4 must come to 1.
        for setting in ([0, 0, 1, 0, 0], [1, 0, 0, 0, 0], [0, 1, 1, 0, 0], [1, 1, 0, 0, 0], [1, 1, 1, 0, 0]):
            self.yes(TREFOIL, 0, setting)
            self.yes(TREFOIL, 1, setting)
        for setting in ([0, 0, 0, 0, 0], [0, 1, 0, 0, 0], [1, 0, 1, 0, 0]):
            self.no(TREFOIL, 0, setting)
            self.no(TREFOIL, 1, setting)
        self.no(ZIGZAG, 1, [0, 0])
        self.no("b0 c0 e0", 1, [0, 0])

    def test_1_only_where_the_height_is_0(self):
        # By the scale 0 ends have 0.
        self.no(ROUND, 0, [1])
        for ends in ([0, 1], [1, 0], [1, 1]):
            self.no(TREFOIL, 0, [0, 0, 1] + ends)
            self.yes(TREFOIL, 1, [0, 0, 1] + ends)
        # The crossing 2 is of the height -1; the deeds come to nought with 1 for it, too.
        more = "b0 b2 c1 c1 c1 c2 c2 e1 e0"
        found = [one for one in settings(told(more), 1) if one[0] == 1 and one[5:] == [0, 0]]
        self.assertEqual(name_heights(told(more), 0)[0], -1)
        self.assertNotEqual(found, [])
        for setting in found:
            self.yes(more, 1, setting)
            self.no(more, 0, setting)

    def test_lists_of_another_length(self):
        for thing in ([], [0], [0, 0, 1, 0], [0, 0, 1, 0, 0, 0], [0, 0, 1, 0, 0] * 2):
            self.no(TREFOIL, 0, thing)
            self.no(TREFOIL, 1, thing)
        self.no(ROUND, 1, [])
        self.no(ROUND, 1, [0, 0])

    def test_other_numbers(self):
        for number in (2, 3, -1, 10 ** 59, True, False, None, "0", "1", "", [], [0], (), (1,)):
            for at in range(5):
                thing = [0, 0, 1, 0, 0]
                thing[at] = number
                self.no(TREFOIL, 0, thing)
                self.no(TREFOIL, 1, thing)
        self.no(ROUND, 1, [True])
        self.no(ROUND, 1, [False])

    def test_things_that_are_no_list(self):
        for thing in (None, True, False, 0, 1, "", "0,0,1,0,0", "00100", (), (0, 0, 1, 0, 0), [[0, 0, 1, 0, 0]]):
            self.no(TREFOIL, 0, thing)
            self.no(TREFOIL, 1, thing)
            self.no(EMPTY, 1, thing)

    def test_all_lists_of_numbers(self):
        for drawing in small_drawings():
            for scale in scales_of(drawing):
                due = settings_by_hand(drawing, name_heights(drawing, scale))
                for numbers in itertools.product((0, 1), repeat=len(names_of(drawing))):
                    if is_setting(drawing, scale, list(numbers)) is not (list(numbers) in due):
                        self.fail((drawing, scale, numbers))

    def test_refused_without_the_scale(self):
        for text in (EMPTY, ZIGZAG, ODD_LINK, EVEN_LINK, THREE_BIRTHS):
            for thing in ([], [0, 0], None, "", [[]], settings(told(text), 1)):
                with self.assertRaises(errors.NoHeights):
                    is_setting(told(text), 0, thing)

    def test_whatever_the_sizes_of_the_sums(self):
        # Between two strands stands a sum of far more than two hundred words.
        drawing = told("b0 b2" + " c1" * 12 + " e0 e0")
        with self.assertRaises(errors.TooMany):
            between(drawing)
        self.assertIs(is_setting(drawing, 1, [0] * 14), True)
        self.assertIs(is_setting(drawing, 1, [1] + [0] * 13), True)
        self.assertIs(is_setting(drawing, 1, [1, 1] + [0] * 12), False)


class TablesOf(unittest.TestCase):
    def test_the_empty_drawing(self):
        self.assertEqual(tables_of([], 1, []), [[]])

    def test_tables_at_each_place(self):
        self.assertEqual(tables_of(told(ROUND), 0, [0]), [[], [[0, 1], [0, 0]], []])
        self.assertEqual(tables_of(told(TREFOIL), 0, [1, 1, 1, 0, 0]), [
            [],
            [[0, 1], [0, 0]],
            [[0, 1, 0, 0], [0, 0, 0, 0], [0, 0, 0, 1], [0, 0, 0, 0]],
            [[0, 1, 1, 0], [0, 0, 0, 1], [0, 0, 0, 1], [0, 0, 0, 0]],
            [[0, 0, 1, 0], [0, 0, 0, 1], [0, 0, 0, 0], [0, 0, 0, 0]],
            [[0, 1, 0, 0], [0, 0, 0, 0], [0, 0, 0, 1], [0, 0, 0, 0]],
            [[0, 1], [0, 0]],
            [],
        ])

    def test_sums_put_out_for_numbers(self):
        for drawing in small_drawings():
            sums = between(drawing)
            for scale in scales_of(drawing):
                for setting in settings(drawing, scale)[::7]:
                    numbers = dict(zip(names_of(drawing), setting))
                    due = [[[put_out(one, numbers) for one in row] for row in table] for table in sums]
                    if tables_of(drawing, scale, setting) != due:
                        self.fail((drawing, scale, setting))

    def test_they_are_high_square_and_full(self):
        for drawing in banded_drawings(20, range(4, 9), [12], has_eight_strands):
            for scale in scales_of(drawing):
                setting = some_setting(drawing, scale)
                if setting is not None:
                    tables = tables_of(drawing, scale, setting)
                    self.assertEqual([len(table) for table in tables], strands(drawing))
                    self.assertTrue(all(is_table(table) for table in tables))

    def test_what_is_no_setting_is_refused(self):
        for thing in (
            None, True, 0, "", (), (0, 0, 1, 0, 0), [], [0, 0, 0, 0, 0], [0, 0, 1, 0], [0, 0, 1, 0, 0, 0],
            [0, 0, True, 0, 0], [0, 0, 1, 0, 2], [[0, 0, 1, 0, 0]],
        ):
            for scale in (0, 1):
                with self.subTest(thing=thing, scale=scale):
                    with self.assertRaises(errors.FrontError) as caught:
                        tables_of(told(TREFOIL), scale, thing)
                    self.assertIs(type(caught.exception), errors.NoSetting)

    def test_no_heights_ahead_of_no_setting(self):
        for text in (EMPTY, ZIGZAG, ODD_LINK, THREE_BIRTHS):
            for thing in (None, [], [0], [5, 5], ""):
                with self.assertRaises(errors.NoHeights):
                    tables_of(told(text), 0, thing)


class Counting(unittest.TestCase):
    def test_how_many(self):
        for text, scale, due in COUNTED + JUST_ENOUGH + TOO_MANY:
            with self.subTest(text=text, scale=scale):
                self.assertEqual(how_many(told(text), scale), due)

    def test_all_of_them(self):
        self.assertEqual(settings([], 1), [[]])
        self.assertEqual(settings(told(ROUND), 0), [[0]])
        self.assertEqual(settings(told(ROUND), 1), [[0], [1]])
        self.assertEqual(settings(told(TREFOIL), 0), [
            [0, 0, 1, 0, 0], [0, 1, 1, 0, 0], [1, 0, 0, 0, 0], [1, 1, 0, 0, 0], [1, 1, 1, 0, 0],
        ])
        self.assertEqual(settings(told(ZIGZAG), 1), [])

    def test_against_all_lists_of_numbers(self):
        for drawing in small_drawings():
            for scale in scales_of(drawing):
                due = settings_by_hand(drawing, name_heights(drawing, scale))
                if how_many(drawing, scale) != len(due) or settings(drawing, scale) != due:
                    self.fail((drawing, scale))

    def test_against_all_of_them_told(self):
        told_ones = 0
        for drawing in banded_drawings(80, range(4, 9), range(8, 13), lambda one: turns(one) == [0]):
            if how_many(drawing, 0) <= 500:
                found = settings(drawing, 0)
                self.assertEqual(len(found), how_many(drawing, 0))
                self.assertEqual(found, sorted(found))
                self.assertEqual(len({tuple(one) for one in found}), len(found))
                self.assertTrue(all(is_setting(drawing, 0, one) for one in found))
                told_ones += 1
        self.assertGreater(told_ones, 40)

    def test_some_setting(self):
        self.assertEqual(some_setting([], 1), [])
        self.assertEqual(some_setting(told(ROUND), 0), [0])
        self.assertIsNone(some_setting(told(ZIGZAG), 1))
        self.assertIsNone(some_setting(told("b0 c0 c0 e0"), 0))
        for drawing in small_drawings() + greatest_drawings(20) + banded_drawings(40, range(4, 9), [12]):
            for scale in scales_of(drawing):
                found = some_setting(drawing, scale)
                if found is None:
                    self.assertEqual(how_many(drawing, scale), 0)
                    self.assertEqual(bandings(drawing, scale), [])
                else:
                    self.assertTrue(is_setting(drawing, scale, found))

    def test_just_five_hundred_or_fewer(self):
        for text, scale, due in JUST_ENOUGH:
            found = settings(told(text), scale)
            self.assertEqual(len(found), due)
            self.assertTrue(all(is_setting(told(text), scale, one) for one in found))

    def test_more_than_five_hundred(self):
        for text, scale, due in TOO_MANY:
            with self.subTest(text=text, scale=scale):
                with self.assertRaises(errors.FrontError) as caught:
                    settings(told(text), scale)
                self.assertIs(type(caught.exception), errors.TooMany)
                self.assertTrue(is_setting(told(text), scale, some_setting(told(text), scale)))

    def test_sums_of_too_many_words_do_not_matter(self):
        drawing = told("b0 b1 b2 c3 c1 c1 c1 c0 c1 c0 e2 e1 e0")
        with self.assertRaises(errors.TooMany):
            between(drawing)
        self.assertEqual(len(settings(drawing, 1)), how_many(drawing, 1))

    def test_refused_without_the_scale(self):
        for text in (EMPTY, ZIGZAG, ODD_LINK, THREE_BIRTHS):
            for ask in (how_many, some_setting, settings):
                with self.assertRaises(errors.NoHeights):
                    ask(told(text), 0)

    def test_no_heights_ahead_of_too_many(self):
        for text, scale, due in TOO_MANY:
            if turns(told(text)) != [0]:
                with self.assertRaises(errors.NoHeights):
                    settings(told(text), 0)


class ToBandings(unittest.TestCase):
    def test_how_many_settings_lead_to_each_banding(self):
        many = 0
        for drawing in banded_drawings(60, range(2, 5), range(2, 7)) + [told(text) for text in SAMPLES]:
            for scale in scales_of(drawing):
                if how_many(drawing, scale) > 500:
                    continue
                counts = {}
                for setting in settings(drawing, scale):
                    rows = [table_partners(table) for table in tables_of(drawing, scale, setting)]
                    # At a crossing that is changed each strand, by its number, has the partner that it had.
                    banding = [t for t in crossings_of(drawing) if rows[t] == rows[t + 1]]
                    self.assertEqual(partners_of(drawing, scale, banding), rows)
                    counts[tuple(banding)] = counts.get(tuple(banding), 0) + 1
                self.assertEqual(sorted(counts), [tuple(one) for one in bandings(drawing, scale)])
                for banding, count in counts.items():
                    free = len(loose(drawing, scale, list(banding))) + scale * len(ends_of(drawing))
                    self.assertEqual(count, 2 ** free)
                    many += 1
        self.assertGreater(many, 100)


class Kept(unittest.TestCase):
    def test_kinds_of_the_answers(self):
        self.assertIs(type(how_many(told(TREFOIL), 0)), int)
        for table in tables_of(told(TREFOIL), 1, some_setting(told(TREFOIL), 1)):
            self.assertLessEqual({type(bit) for row in table for bit in row}, {int})
        for one in settings(told(TREFOIL), 1):
            self.assertEqual({type(number) for number in one}, {int})

    def test_answers_are_the_askers_own(self):
        for text in SAMPLES:
            for scale in scales_of(told(text)):
                with self.subTest(text=text, scale=scale):
                    check_own(self, lambda drawing: settings(drawing, scale), told(text))
                    check_own(self, lambda drawing: tables_of(drawing, scale, some_setting(drawing, scale)),
                              told(text if how_many(told(text), scale) else ROUND))

    def test_what_is_told_of_a_setting_is_the_askers_own(self):
        for text in (EMPTY, ROUND, TREFOIL, ODD_LINK):
            drawing = told(text)
            for setting in settings(drawing, 1)[:5]:
                check_own(self, lambda handed: tables_of(drawing, 1, handed), setting, list(setting))
                self.assertEqual(drawing, told(text))

    def test_some_setting_is_the_askers_own(self):
        for text in (EMPTY, ROUND, TREFOIL, ODD_LINK):
            drawing = told(text)
            first = some_setting(drawing, 1)
            second = some_setting(drawing, 1)
            kept = list(second)
            first.append("mine")
            self.assertEqual(second, kept)
            self.assertEqual(drawing, told(text))
            self.assertTrue(is_setting(drawing, 1, second))
            self.assertTrue(is_setting(drawing, 1, some_setting(drawing, 1)))

    def test_a_setting_with_one_part_put_otherwise(self):
        chance = random.Random(9)
        for drawing in banded_drawings(20, range(2, 4), range(2, 6)):
            due = settings_by_hand(drawing, name_heights(drawing, 1))
            setting = some_setting(drawing, 1)
            self.assertIn(setting, due)
            at = chance.randrange(len(setting))
            self.assertIs(is_setting(drawing, 1, setting[:at] + setting[at + 1:]), False)
            self.assertIs(is_setting(drawing, 1, setting[:at] + [0] + setting[at:]), False)
            setting[at] ^= 1
            self.assertIs(is_setting(drawing, 1, setting), setting in due)

    def test_no_answer_takes_long(self):
        texts = [text for text, scale, due in COUNTED + JUST_ENOUGH + TOO_MANY]
        drawings = banded_drawings(60, range(4, 9), [12], has_eight_strands) + greatest_drawings(20)
        drawings += banded_drawings(20, range(4, 9), [12], lambda one: has_eight_strands(one) and turns(one) == [0])
        for drawing in drawings + [told(text) for text in texts]:
            for scale in scales_of(drawing):
                begun = time.process_time()
                many, setting = how_many(drawing, scale), some_setting(drawing, scale)
                if setting is not None:
                    is_setting(drawing, scale, setting), tables_of(drawing, scale, setting)
                if many <= 500:
                    settings(drawing, scale)
                self.assertLess(time.process_time() - begun, 5)


if __name__ == "__main__":
    unittest.main()
