import random
import time
import unittest

from bendfronts import errors
from bendfronts.deeds import between, deed_of, deeds
from bendfronts.drawings import names_of, strands
from bendfronts.heights import name_heights
from bendfronts.sums import added, is_sum, multiplied
from bendfronts.threads import turns
from byhand import between_by_hand
from samples import (
    CURLED, E, ODD_LINK, ROUND, SAMPLES, TREFOIL, banded_drawings, check_own, greatest_drawings, short_drawings, told,
)

# An end with a strand above and a strand beneath, both of which reach it.
WAIST = "b0 b2 c1 e1 e0"

# The greatest number of words of a sum between two strands, and a drawing where it is so.
JUST_ENOUGH = (
    (144, "b0 b2" + " c1" * 11 + " e0 e0"),
    (199, "b0 b1 b2 c1 c1 c0 c1 c3 c4 c4 e2 e1 e0"),
    (200, "b0 b0 b4 c3 c2 c2 e3 c1 c1 c1 c2 c2 c2 c0 e1 e0"),
    (200, "b0 b1 b1 e1 c2 b0 b0 e0 c2 c1 c2 c4 c4 e3 c1 c0 c0 c0 e1 e0"),
)
TOO_MANY = (
    (201, "b0 b1 b2 c3 c1 c1 c1 c0 c1 c0 e2 e1 e0"),
    (202, "b0 b1 b1 c2 c2 e1 c0 c0 c0 c2 c0 c0 e1 e0"),
    (233, "b0 b2" + " c1" * 12 + " e0 e0"),
    # The strands between which it stands have long ended behind it.
    (233, "b0 b2" + " c1" * 12 + " e0 e0 b0 e0 b0 e0"),
    (233, "b0 e0 b0 b2 b4" + " c3" * 12 + " e2 e2 e0"),
)


def most_words(tables):
    return max(len(one) for table in tables for row in table for one in row)


class Between(unittest.TestCase):
    def test_the_empty_drawing(self):
        self.assertEqual(between([]), [[]])

    def test_a_birth_and_an_end(self):
        self.assertEqual(between(told(ROUND)), [[], [[[], [()]], [[], []]], []])

    def test_births_at_all_places_among_others(self):
        o, one = [], [()]
        self.assertEqual(between(told("b0 b0 e0 e0"))[2], [[o, one, o, o], [o, o, o, o], [o, o, o, one], [o, o, o, o]])
        self.assertEqual(between(told("b0 b1 e1 e0"))[2], [[o, o, o, one], [o, o, one, o], [o, o, o, o], [o, o, o, o]])
        self.assertEqual(between(told("b0 b2 e2 e0"))[2], [[o, one, o, o], [o, o, o, o], [o, o, o, one], [o, o, o, o]])

    def test_crossings(self):
        o = []
        tables = between(told(TREFOIL))
        self.assertEqual(tables[3], [[o, [(2,)], [()], o], [o, o, o, [()]], [o, o, o, [(2,)]], [o, o, o, o]])
        self.assertEqual(tables[4], [
            [o, [(), (2, 3)], [(2,)], o], [o, o, o, [(2,)]], [o, o, o, [(), (3, 2)]], [o, o, o, o],
        ])
        self.assertEqual(tables[5], [
            [o, [(2,), (2, 3, 4), (4,)], [(), (2, 3)], o],
            [o, o, o, [(), (3, 2)]],
            [o, o, o, [(2,), (4,), (4, 3, 2)]],
            [o, o, o, o],
        ])
        self.assertEqual(tables[6:], [[[o, [(2,), (4,), (4, 3, 2)]], [o, o]], []])

    def test_a_crossing_of_two_that_are_born_together(self):
        # What stood between them is nought behind the crossing.
        self.assertEqual(between(told("b0 c0 e0")), [[], [[[], [()]], [[], []]], [[[], []], [[], []]], []])

    def test_an_end_with_strands_above_and_beneath(self):
        self.assertEqual(between(told(WAIST))[4], [[[], [(), (2, 3), (2, 3, 3, 2), (3, 2)]], [[], []]])

    def test_an_end_adds_to_what_stood_there(self):
        tables = between(told("b0 b1 c0 c2 e1 e0"))
        self.assertEqual(tables[4][0][1:], [[], [(3,)], [()]])
        self.assertEqual(tables[4][1][2:], [[(), (2, 3)], [(2,)]])
        self.assertEqual(tables[4][2][3], [])
        # The product of x3 and x2 comes to the 1 that stood between 0 and 3.
        self.assertEqual(tables[5], [[[], [(), (3, 2)]], [[], []]])

    def test_nought_where_i_is_not_less_than_j(self):
        for text in SAMPLES + (WAIST,):
            for table, many in zip(between(told(text)), strands(told(text))):
                self.assertEqual([len(row) for row in table], [many] * many)
                self.assertTrue(all(table[i][j] == [] for i in range(many) for j in range(i + 1)))

    def test_all_short_drawings(self):
        for drawing in short_drawings(7):
            if between(drawing) != between_by_hand(drawing):
                self.fail(drawing)

    def test_greater_drawings(self):
        drawings = greatest_drawings(40) + banded_drawings(60, range(2, 9), range(4, 13))
        told_ones = 0
        for drawing in drawings:
            due = between_by_hand(drawing)
            if most_words(due) <= 200:
                self.assertEqual(between(drawing), due)
                told_ones += 1
            else:
                with self.assertRaises(errors.TooMany):
                    between(drawing)
        self.assertGreater(told_ones, 50)
        self.assertLess(told_ones, 100)


class Deeds(unittest.TestCase):
    def check(self, text, due):
        self.assertEqual(deeds(told(text)), due)

    def test_the_empty_drawing(self):
        self.check("", [])

    def test_ends(self):
        self.check(ROUND, [[]])
        self.check("b0 b2 e1 e0", [[()], [(), (2, 2)]])
        self.check("b0 c0 e0", [[()], [()]])

    def test_crossings(self):
        self.check(TREFOIL, [[], [], [], [(), (2,), (2, 3, 4), (4,)], [(), (2,), (4,), (4, 3, 2)]])
        self.check(CURLED, [[], [(), (2,)], [(), (2,)]])
        self.check(ODD_LINK, [[], [], [(2, 3)], [(3, 2)]])
        self.check(WAIST, [[], [()], [(2, 3), (2, 3, 3, 2), (3, 2)]])
        # The crossing 3 has the sum of the crossing 2 as its deed.
        self.check("b0 b2 c1 c0 e1 e0", [[], [(2,)], [], []])

    def test_by_the_tables(self):
        drawings = list(short_drawings(7)) + banded_drawings(40, range(2, 5), range(4, 8))
        for drawing in drawings + [told(text) for most, text in JUST_ENOUGH]:
            tables, due = between_by_hand(drawing), []
            for t in names_of(drawing):
                kind, k = drawing[t]
                due.append(sorted(set(tables[t][k][k + 1]) ^ ({()} if kind == E else set())))
            if deeds(drawing) != due:
                self.fail(drawing)

    def test_heights_go_down_by_1(self):
        drawings = [drawing for drawing in short_drawings(7) if turns(drawing) == [0]]
        words = 0
        for drawing in drawings + banded_drawings(30, range(2, 6), range(4, 11), lambda one: turns(one) == [0]):
            heights = dict(zip(names_of(drawing), name_heights(drawing, 0)))
            try:
                found = deeds(drawing)
            except errors.TooMany:
                continue
            for name, deed in zip(names_of(drawing), found):
                for word in deed:
                    words += 1
                    self.assertEqual(sum(heights[one] for one in word), heights[name] - 1, drawing)
        self.assertGreater(words, 1000)


class DeedOf(unittest.TestCase):
    def test_nought_and_the_word_without_names(self):
        for text in SAMPLES:
            self.assertEqual(deed_of(told(text), []), [])
            self.assertEqual(deed_of(told(text), [()]), [])

    def test_names(self):
        for text in SAMPLES + (WAIST,):
            drawing = told(text)
            for name, deed in zip(names_of(drawing), deeds(drawing)):
                self.assertEqual(deed_of(drawing, [(name,)]), deed)
                self.assertEqual(deed_of(drawing, [(), (name,)]), deed)

    def test_words_of_several_names(self):
        link = told(ODD_LINK)
        self.assertEqual(deed_of(link, [(2, 4)]), [(2, 2, 3)])
        self.assertEqual(deed_of(link, [(4, 2)]), [(2, 3, 2)])
        self.assertEqual(deed_of(link, [(4, 5)]), [(2, 3, 5), (4, 3, 2)])
        self.assertEqual(deed_of(link, [(2, 3, 2)]), [])
        self.assertEqual(deed_of(link, [(4, 4, 4)]), [(2, 3, 4, 4), (4, 2, 3, 4), (4, 4, 2, 3)])

    def test_words_fall_away(self):
        link = told(ODD_LINK)
        self.assertEqual(deed_of(link, [(2, 5), (4, 2)]), [])
        self.assertEqual(deed_of(link, [(3, 4), (5, 3)]), [])
        # The deeds of both ends have 1 and x2 and x4 in common.
        self.assertEqual(deed_of(told(TREFOIL), [(5,), (6,)]), [(2, 3, 4), (4, 3, 2)])
        self.assertEqual(deed_of(told(CURLED), [(3,), (4,)]), [])
        # By both places of one word: the deed of the end 2 is 1, that of the end 3 is 1 and x2 x2.
        self.assertEqual(deed_of(told("b0 b2 e1 e0"), [(2, 2)]), [])
        self.assertEqual(deed_of(told("b0 b2 e1 e0"), [(2, 3)]), [(2,), (2, 2, 2), (3,)])
        self.assertEqual(deed_of(told("b0 b2 e1 e0"), [(2, 2, 2)]), [(2, 2)])

    def test_the_deed_of_a_sum_is_that_of_its_words_added(self):
        chance = random.Random(4)
        for drawing in banded_drawings(30, range(2, 4), range(2, 6)):
            names = names_of(drawing)
            one, other = [
                sorted({tuple(chance.choices(names, k=chance.randint(0, 4))) for word in range(6)}) for side in range(2)
            ]
            first, second = deed_of(drawing, one), deed_of(drawing, other)
            self.assertEqual(deed_of(drawing, added(one, other)), added(first, second))
            # And the deed of a product is put together from the deeds of its two sums.
            self.assertEqual(deed_of(drawing, multiplied(one, other)),
                             added(multiplied(first, other), multiplied(one, second)))
            self.assertTrue(is_sum(first))

    def test_the_deed_done_twice_is_nought(self):
        drawings = list(short_drawings(6)) + banded_drawings(60, range(2, 9), range(4, 13)) + greatest_drawings(30)
        many = 0
        for drawing in drawings + [told(text) for most, text in JUST_ENOUGH]:
            try:
                found = deeds(drawing)
            except errors.TooMany:
                continue
            for deed in found:
                many += deed != []
                if deed_of(drawing, deed) != []:
                    self.fail(drawing)
        self.assertGreater(many, 500)

    def test_the_deed_done_twice_to_a_sum_is_nought(self):
        chance = random.Random(5)
        for drawing in banded_drawings(20, range(2, 4), range(2, 6)):
            names = names_of(drawing)
            one = sorted({tuple(chance.choices(names, k=3)) for word in range(5)})
            self.assertEqual(deed_of(drawing, deed_of(drawing, one)), [])

    def test_forty_words_of_eight_names(self):
        drawing = told(TREFOIL)
        chance = random.Random(6)
        one = sorted({tuple(chance.choices([2, 3, 4, 5, 6], k=8)) for word in range(40)})
        self.assertEqual(len(one), 40)
        self.assertEqual(deed_of(drawing, deed_of(drawing, one)), [])


class TooMany(unittest.TestCase):
    def test_just_two_hundred_words_or_fewer(self):
        for most, text in JUST_ENOUGH:
            drawing = told(text)
            with self.subTest(text):
                self.assertEqual(between(drawing), between_by_hand(drawing))
                self.assertEqual(most_words(between(drawing)), most)
                self.assertEqual(len(deeds(drawing)), len(names_of(drawing)))
                self.assertEqual(deed_of(drawing, [(names_of(drawing)[0],)]), deeds(drawing)[0])

    def test_a_deed_of_an_end_may_have_one_word_more(self):
        drawing = told(JUST_ENOUGH[-1][1])
        self.assertEqual(max(len(deed) for deed in deeds(drawing)), 201)

    def test_more_than_two_hundred_words(self):
        for most, text in TOO_MANY:
            drawing = told(text)
            with self.subTest(text):
                self.assertEqual(most_words(between_by_hand(drawing)), most)
                with self.assertRaises(errors.TooMany):
                    between(drawing)
                with self.assertRaises(errors.TooMany):
                    deeds(drawing)
                for one in ([], [()], [(names_of(drawing)[0],)], [(names_of(drawing)[-1],)]):
                    with self.assertRaises(errors.TooMany):
                        deed_of(drawing, one)

    def test_a_sum_on_the_way_may_have_more(self):
        # At the first end 89 and 144 words are put together, 233, of which nought comes behind it.
        drawing = told("b0 b2" + " c1" * 11 + " c2 e1 e0")
        table = between_by_hand(drawing)[-3]
        self.assertEqual([len(one) for one in table[0]], [0, 144, 89, 89])
        self.assertEqual([table[1][3], table[2][3]], [[], []])
        self.assertEqual(between(drawing), between_by_hand(drawing))
        self.assertEqual(most_words(between(drawing)), 144)
        self.assertEqual(len(deeds(drawing)[-1]), 88)

    def test_a_great_product_at_an_end(self):
        drawing = told("b0 b2" + " c1" * 11 + " e1 e0")
        self.assertEqual(most_words(between_by_hand(drawing)), 233 * 233)
        for ask in (between, deeds, lambda drawing: deed_of(drawing, [])):
            with self.assertRaises(errors.TooMany):
                ask(drawing)

    def test_which_refusal_it_is(self):
        drawing = told(TOO_MANY[0][1])
        for ask in (between, deeds, lambda drawing: deed_of(drawing, [])):
            with self.assertRaises(errors.FrontError) as caught:
                ask(drawing)
            self.assertIs(type(caught.exception), errors.TooMany)
        self.assertEqual(drawing, told(TOO_MANY[0][1]))


class Kept(unittest.TestCase):
    def test_kinds_of_the_answers(self):
        for drawing in (told(TREFOIL), told(WAIST)):
            for table in between(drawing):
                self.assertTrue(all(is_sum(one) for row in table for one in row))
            self.assertTrue(all(is_sum(one) for one in deeds(drawing)))

    def test_answers_are_the_askers_own(self):
        for text in SAMPLES + (WAIST,):
            with self.subTest(text):
                check_own(self, between, told(text))
                check_own(self, deeds, told(text))

    def test_deeds_of_sums_are_the_askers_own(self):
        for text in (TREFOIL, WAIST, ODD_LINK):
            drawing = told(text)
            last = names_of(drawing)[-1]
            for one in ([], [()], [(last,)], [(), (2, last)]):
                check_own(self, lambda handed: deed_of(drawing, handed), one, [(2,)])
                self.assertEqual(drawing, told(text))
                handed = list(one)
                check_own(self, lambda drawing: deed_of(drawing, handed), told(text), told(text))
                self.assertEqual(handed, one)

    def test_no_answer_takes_long(self):
        texts = [text for most, text in JUST_ENOUGH + TOO_MANY] + ["b0 b2" + " c1" * 11 + " e1 e0"]
        for drawing in greatest_drawings(40) + banded_drawings(40, range(4, 9), [12]) + [told(text) for text in texts]:
            begun = time.process_time()
            try:
                between(drawing)
                for deed in deeds(drawing):
                    deed_of(drawing, deed)
            except errors.TooMany:
                pass
            self.assertLess(time.process_time() - begun, 5)

    def test_beyond_the_bounds_nothing_else_is_refused(self):
        long = told("b0 e0 " * 20)
        self.assertEqual(deeds(long), [[]] * 20)
        wide = told("b0 " * 6 + "e0 " * 6)
        self.assertEqual(deeds(wide), [[]] * 6)
        self.assertEqual([len(table) for table in between(wide)], strands(wide))


if __name__ == "__main__":
    unittest.main()
