import itertools
import time
import unittest

from bendfronts import errors
from bendfronts.bands import band_sum, bandings, is_banding, loose, partners_of
from bendfronts.drawings import crossings_of
from bendfronts.heights import name_heights
from bendfronts.threads import turns
from byhand import banding_by_hand, bandings_by_hand
from samples import (
    CURLED, E, EMPTY, EVEN_LINK, ODD_LINK, ROUND, SAMPLES, THREE_BIRTHS, TREFOIL, ZIGZAG,
    banded_drawings, check_own, greatest_drawings, has_eight_strands, scales_of, short_drawings, told,
)

# A drawing with both a crossing of height 0 and crossings of other heights.
MIXED = "b0 b1 c2 c1 c1 c1 c1 e0 e0"

# A drawing that has a banding by the scale 1 that it does not have by the scale 0, changed at heights -1 and 1.
ONE_MORE = "b0 b2 c1 c1 c1 c2 c2 e1 e0"


def small_drawings():
    """Short drawings with crossings, and some that have bandings; all small enough to go through all lists."""
    drawings = [drawing for drawing in short_drawings(7) if crossings_of(drawing)][::5]
    return drawings + banded_drawings(60, range(2, 6), range(2, 8)) + [told(text) for text in SAMPLES]


class IsBanding(unittest.TestCase):
    def yes(self, text, scale, thing):
        self.assertIs(is_banding(told(text), scale, thing), True, thing)

    def no(self, text, scale, thing):
        self.assertIs(is_banding(told(text), scale, thing), False, thing)

    def test_the_empty_drawing(self):
        self.yes(EMPTY, 1, [])
        self.no(EMPTY, 1, [0])

    def test_births_and_ends_alone(self):
        for scale in (0, 1):
            self.yes(ROUND, scale, [])
            self.no(ROUND, scale, [0])
            self.no(ROUND, scale, [1])
        self.yes("b0 b1 e1 e0", 1, [])
        self.yes("b0 b2 e2 e0", 1, [])
        # The two that end are no partners.
        self.no(ZIGZAG, 1, [])
        self.no(THREE_BIRTHS, 1, [])
        self.no("b0 b2 e1 e0", 1, [])

    def test_two_partners_do_not_cross(self):
        self.no("b0 c0 e0", 1, [])
        self.no("b0 c0 e0", 1, [1])
        self.no("b0 c0 c0 e0", 1, [])
        self.no("b0 c0 c0 e0", 0, [])

    def test_kept_and_changed_crossings(self):
        for scale in (0, 1):
            self.yes(TREFOIL, scale, [2, 3, 4])
            self.yes(TREFOIL, scale, [2])
            self.yes(TREFOIL, scale, [4])
            self.no(TREFOIL, scale, [])
            self.no(TREFOIL, scale, [2, 3])
            self.no(TREFOIL, scale, [2, 4])
            self.no(TREFOIL, scale, [3, 4])
            # Behind the kept crossing 2 the two pairs lie neither apart nor one within the other.
            self.no(TREFOIL, scale, [3])

    def test_pairs_apart_and_one_within_the_other(self):
        # Apart: pairs 0 1 and 2 3. Within: pairs 0 3 and 1 2, the crossing above or beneath.
        self.yes(ODD_LINK, 1, [2, 3])
        self.yes(ODD_LINK, 1, [])
        self.no(ODD_LINK, 1, [2])
        self.yes("b0 b1 c0 c0 e1 e0", 1, [2, 3])
        self.yes("b0 b1 c2 c2 e1 e0", 1, [2, 3])
        self.yes("b0 b1 c0 e1 e0", 1, [2])
        self.yes("b0 b1 c2 e1 e0", 1, [2])
        # Neither: pairs 0 2 and 1 3, at each of the three crossings.
        for k, end in ((0, 1), (1, 0), (2, 1)):
            self.no(f"b0 b2 c1 c{k} e{end} e0", 1, [3])

    def test_only_where_the_height_is_0(self):
        self.assertEqual(name_heights(told(ONE_MORE), 0), [-1, 1, -1, 0, 0, 1, 1])
        self.yes(ONE_MORE, 0, [6])
        self.yes(ONE_MORE, 1, [6])
        self.no(ONE_MORE, 0, [2, 3, 6])
        self.yes(ONE_MORE, 1, [2, 3, 6])

    def test_a_crossing_of_another_height_is_kept(self):
        self.assertEqual(name_heights(told(MIXED), 0), [-1, 0, 0, 0, 0, 1, 1])
        for thing in ([4], [4, 5, 6], [6]):
            self.yes(MIXED, 0, thing)
        for thing in ([2], [2, 4], [2, 3], [2, 3, 4, 5, 6]):
            self.no(MIXED, 0, thing)

    def test_all_lists_of_crossings(self):
        for drawing in small_drawings():
            crossings = crossings_of(drawing)
            for scale in scales_of(drawing):
                heights = name_heights(drawing, scale)
                for many in range(len(crossings) + 1):
                    for thing in itertools.combinations(crossings, many):
                        due = banding_by_hand(drawing, heights, thing) is not None
                        if is_banding(drawing, scale, list(thing)) is not due:
                            self.fail((drawing, scale, thing))

    def test_lists_that_do_not_rise(self):
        for scale in (0, 1):
            for thing in ([4, 3, 2], [2, 4, 3], [2, 2], [2, 2, 3, 4], [2, 3, 4, 4], [4, 4]):
                self.no(TREFOIL, scale, thing)

    def test_lists_that_name_no_crossing(self):
        for scale in (0, 1):
            for name in (-1, 0, 1, 5, 6, 7, 8, 10 ** 59, -(10 ** 59)):
                self.no(TREFOIL, scale, [name])
                self.no(TREFOIL, scale, sorted([2, 3, 4, name]))
                self.no(TREFOIL, scale, sorted([2, name]))

    def test_things_that_are_no_list_of_whole_numbers(self):
        for thing in (
            None, True, False, 0, 2, "", "2", "2,3,4", (), (2,), (2, 3, 4), [None], [True], ["2"], [[2]], [(2,)], [[]],
            [()], [2, 3, "4"], [2, 3, None], [[2, 3, 4]], [2, 3, [4]],
        ):
            self.no(TREFOIL, 0, thing)
            self.no(TREFOIL, 1, thing)
        # A truth is not the number of a letter, though True comes to 1 and there is a crossing 1.
        self.assertEqual(crossings_of(told("b0 c0 e0")), [1])
        self.no("b0 c0 e0", 1, [True])

    def test_refused_without_the_scale(self):
        for text in (EMPTY, ZIGZAG, ODD_LINK, EVEN_LINK, THREE_BIRTHS):
            for thing in ([], [2], None, "", [[]]):
                with self.assertRaises(errors.NoHeights):
                    is_banding(told(text), 0, thing)

    def test_what_is_handed_in_stays(self):
        for thing in ([2, 3, 4], [4, 2], [[2], []]):
            kept, drawing = repr(thing), told(TREFOIL)
            is_banding(drawing, 1, thing)
            self.assertEqual((repr(thing), drawing), (kept, told(TREFOIL)))


class Bandings(unittest.TestCase):
    def check(self, text, scale, due):
        self.assertEqual(bandings(told(text), scale), due)

    def test_ordinary_drawings(self):
        self.check(EMPTY, 1, [[]])
        self.check(ROUND, 0, [[]])
        self.check(ROUND, 1, [[]])
        self.check(TREFOIL, 0, [[2], [2, 3, 4], [4]])
        self.check(TREFOIL, 1, [[2], [2, 3, 4], [4]])
        self.check(CURLED, 0, [[2]])
        self.check(ODD_LINK, 1, [[], [2, 3]])
        self.check(ZIGZAG, 1, [])
        self.check("b0 c0 c0 e0", 0, [])

    def test_all_bandings(self):
        for drawing in small_drawings():
            for scale in scales_of(drawing):
                due = bandings_by_hand(drawing, name_heights(drawing, scale))
                if bandings(drawing, scale) != due:
                    self.fail((drawing, scale))

    def test_the_greatest_drawings(self):
        for drawing in banded_drawings(15, range(4, 9), [12], has_eight_strands) + greatest_drawings(5):
            for scale in scales_of(drawing):
                found = bandings(drawing, scale)
                self.assertEqual(found, bandings_by_hand(drawing, name_heights(drawing, scale)))
                self.assertTrue(all(is_banding(drawing, scale, one) for one in found))

    def test_there_may_be_more_by_the_scale_1(self):
        self.check(MIXED, 0, [[4], [4, 5, 6], [6]])
        self.check(MIXED, 1, [[4], [4, 5, 6], [6]])
        self.check(ONE_MORE, 0, [[6]])
        self.check(ONE_MORE, 1, [[2, 3, 6], [6]])

    def test_refused_without_the_scale(self):
        for text in (EMPTY, ZIGZAG, ODD_LINK):
            for ask in (bandings, band_sum):
                with self.assertRaises(errors.NoHeights):
                    ask(told(text), 0)


class BandSum(unittest.TestCase):
    def check(self, text, scale, due):
        self.assertEqual(band_sum(told(text), scale), due)

    def test_ordinary_drawings(self):
        self.check(EMPTY, 1, [(0, 1)])
        self.check(ROUND, 0, [(-1, 1)])
        self.check("b0 e0 b0 e0", 1, [(-2, 1)])
        self.check(TREFOIL, 0, [(-1, 2), (1, 1)])
        self.check(CURLED, 0, [(-1, 1)])
        self.check(ODD_LINK, 1, [(-2, 1), (0, 1)])
        self.check(ZIGZAG, 1, [])
        self.check("b0 b2" + " c1" * 12 + " e0 e0", 1, [
            (-2, 1), (0, 21), (2, 70), (4, 84), (6, 45), (8, 11), (10, 1),
        ])

    def test_out_of_all_bandings(self):
        for drawing in small_drawings() + banded_drawings(10, range(4, 9), [12]):
            ends = [kind for kind, k in drawing].count(E)
            for scale in scales_of(drawing):
                powers = [len(one) - ends for one in bandings(drawing, scale)]
                due = [(power, powers.count(power)) for power in sorted(set(powers))]
                self.assertEqual(band_sum(drawing, scale), due)

    def test_kinds_of_the_answers(self):
        for one in band_sum(told(TREFOIL), 0):
            self.assertEqual([type(one), type(one[0]), type(one[1])], [tuple, int, int])


class PartnersAndLoose(unittest.TestCase):
    def test_the_empty_drawing(self):
        self.assertEqual(partners_of([], 1, []), [[]])
        self.assertEqual(loose([], 1, []), [])

    def test_partners_at_each_place(self):
        apart, tangle = [1, 0, 3, 2], [2, 3, 0, 1]
        for scale in (0, 1):
            self.assertEqual(partners_of(told(ROUND), scale, []), [[], [1, 0], []])
            self.assertEqual(partners_of(told(TREFOIL), scale, [2]),
                             [[], [1, 0], apart, apart, tangle, apart, [1, 0], []])
            self.assertEqual(partners_of(told(TREFOIL), scale, [4]),
                             [[], [1, 0], apart, tangle, apart, apart, [1, 0], []])
            self.assertEqual(partners_of(told(TREFOIL), scale, [2, 3, 4]),
                             [[], [1, 0], apart, apart, apart, apart, [1, 0], []])
        self.assertEqual(partners_of(told("b0 b1 b2 e2 e1 e0"), 1, []),
                         [[], [1, 0], [3, 2, 1, 0], [5, 4, 3, 2, 1, 0], [3, 2, 1, 0], [1, 0], []])
        self.assertEqual(partners_of(told("b0 b2 b2 e0 e2 e0"), 1, []),
                         [[], [1, 0], apart, [1, 0, 3, 2, 5, 4], apart, [1, 0], []])

    def test_where_a_banding_is_loose(self):
        for scale in (0, 1):
            self.assertEqual(loose(told(TREFOIL), scale, [2]), [4])
            self.assertEqual(loose(told(TREFOIL), scale, [4]), [3])
            self.assertEqual(loose(told(TREFOIL), scale, [2, 3, 4]), [])
        self.assertEqual(loose(told(ODD_LINK), 1, []), [3])
        self.assertEqual(loose(told(ODD_LINK), 1, [2, 3]), [])
        # Of height -1 the crossing 2 is kept but not loose by the scale 0, nor is any behind it.
        self.assertEqual(loose(told(MIXED), 0, [4, 5, 6]), [3])

    def test_not_loose_where_the_height_is_not_0(self):
        seen = 0
        for drawing in banded_drawings(40, range(2, 6), range(3, 9), lambda one: turns(one) == [0]):
            heights = name_heights(drawing, 0)
            for one in bandings(drawing, 0):
                due = banding_by_hand(drawing, heights, one)[1]
                self.assertEqual(loose(drawing, 0, one), due)
                seen += len(loose(drawing, 1, one)) > len(due)
        self.assertGreater(seen, 0)

    def test_all_bandings(self):
        for drawing in small_drawings() + banded_drawings(5, range(4, 9), [12], has_eight_strands):
            for scale in scales_of(drawing):
                heights = name_heights(drawing, scale)
                for one in bandings(drawing, scale):
                    rows, due = banding_by_hand(drawing, heights, one)
                    if partners_of(drawing, scale, one) != rows or loose(drawing, scale, one) != due:
                        self.fail((drawing, scale, one))

    def test_what_is_no_banding_is_refused(self):
        for thing in (None, True, 0, "", (), (2,), [], [3], [2, 3], [4, 2], [True], [[2]], [2, 3, 4, 5], [-1]):
            for scale in (0, 1):
                for ask in (partners_of, loose):
                    with self.subTest(ask=ask.__name__, thing=thing):
                        with self.assertRaises(errors.FrontError) as caught:
                            ask(told(TREFOIL), scale, thing)
                        self.assertIs(type(caught.exception), errors.NoBanding)

    def test_no_heights_ahead_of_no_banding(self):
        for text in (EMPTY, ZIGZAG, ODD_LINK, THREE_BIRTHS):
            for thing in (None, [], [3], "", (2,)):
                for ask in (partners_of, loose):
                    with self.assertRaises(errors.NoHeights):
                        ask(told(text), 0, thing)


class Kept(unittest.TestCase):
    def test_answers_are_the_askers_own(self):
        for text in SAMPLES + (MIXED,):
            for scale in scales_of(told(text)):
                with self.subTest(text=text, scale=scale):
                    check_own(self, lambda drawing: bandings(drawing, scale), told(text))
                    check_own(self, lambda drawing: band_sum(drawing, scale), told(text))

    def test_what_is_told_of_a_banding_is_the_askers_own(self):
        for text in (EMPTY, ROUND, TREFOIL, CURLED, ODD_LINK, MIXED):
            drawing = told(text)
            for scale in scales_of(drawing):
                for one in bandings(drawing, scale):
                    for ask in (partners_of, loose):
                        check_own(self, lambda handed: ask(drawing, scale, handed), one, list(one))
                        self.assertEqual(drawing, told(text))
                        handed = list(one)
                        check_own(self, lambda drawing: ask(drawing, scale, handed), told(text), told(text))
                        self.assertEqual(handed, one)

    def test_no_answer_takes_long(self):
        drawings = banded_drawings(40, range(4, 9), [12], has_eight_strands) + [told("b0 b2" + " c1" * 12 + " e0 e0")]
        for drawing in drawings:
            for scale in scales_of(drawing):
                begun = time.process_time()
                found = bandings(drawing, scale)
                band_sum(drawing, scale)
                for one in found[:2]:
                    partners_of(drawing, scale, one), loose(drawing, scale, one), is_banding(drawing, scale, one)
                self.assertLess(time.process_time() - begun, 5)

    def test_beyond_the_bounds_nothing_else_is_refused(self):
        self.assertEqual(bandings(told("b0 e0 " * 20), 1), [[]])
        wide = told("b0 " * 6 + "c1 c1 " + "e0 " * 6)
        self.assertEqual(bandings(wide, 1), [[], [6, 7]])
        self.assertEqual(partners_of(wide, 1, [6, 7])[6], [at ^ 1 for at in range(12)])
        self.assertEqual(len(crossings_of(told("b0 b2" + " c1" * 14 + " e0 e0"))), 14)
        self.assertEqual(len(bandings(told("b0 b2" + " c1" * 14 + " e0 e0"), 1)), 610)


if __name__ == "__main__":
    unittest.main()
